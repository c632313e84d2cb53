/- What the rows list of the package's variables, in memory. -/
import Derived.Test.YtoifibnmincodaaGreatDoorXs
import Derived.Test.YtoifibnmincodaaGreatDoorRows
import Derived.Stop.LaidErr
import Derived.MakeChecks
import Derived.OpenShut
import Derived.Shelf.Vars
import Derived.ChangeSame
namespace Go.Proofs.YtoifibnmincodaaGreatDoor
set_option linter.unusedSimpArgs false
set_option linter.unusedVariables false
open Go.RowKit

theorem laidVars_mem {P : Program} {w : World} : ∀ (laid : List (String × DataW Unit)) (ps : List MemPlace), DataW.LaidVars P w laid ps → ∀ n d, (n, d) ∈ laid →
    ∃ g t cs fuel p, P.globalNamed n = some g ∧ (P.globals[g]?).map (·.type) = some t ∧ w.var? P n = some cs ∧ DataW.trod (fun _ => ()) P w 0 (fun _ => true) false fuel t cs.toList = some (d, p) ∧ ∀ x ∈ MemPlace.row ⟨g, 0, none⟩ cs.size, x ∈ ps
  | [], ps, h, n, d, hm => by cases hm
  | (n0, d0) :: r, ps, h, n, d, hm => by
    obtain ⟨g, t, cs, fuel, p, q, h1, h2, h3, h4, h5, rfl⟩ := h
    rcases List.mem_cons.1 hm with he | hm
    · injection he with e1 e2
      subst e1
      subst e2
      exact ⟨g, t, cs, fuel, p, h1, h2, h3, h4, fun x hx => by simp [hx]⟩
    · obtain ⟨g', t', cs', fuel', p', k1, k2, k3, k4, k5⟩ := laidVars_mem r q h5 n d hm
      exact ⟨g', t', cs', fuel', p', k1, k2, k3, k4, fun x hx => by simp [k5 x hx]⟩
set_option maxRecDepth 100000 in
theorem pair_cells {w : World} {sp : Nat → Bool} {fuel : Nat} {two : List Value} {s : List UInt8} {c : Int} {p : List MemPlace}
    (h : DataW.trod (fun _ => ()) Tryz.prog w 0 sp false fuel 79 two = some (.agg [.lit (.string s), .lit (.int .u8 c)], p)) : two = [.string (mkS s), .int .u8 c] := by
  obtain ⟨xs, n, _, hx, hl, hxl, hf⟩ := DataW.trod_struct Tryz.underlying79 h
  match xs, hxl, hf, hx with
  | [y0, y1], _, hf, hx =>
    have h0 : DataW.trod (fun _ => ()) Tryz.prog w 0 sp false n 9 ((two.drop 0).take (Tryz.prog.cellsOf 9)) = some y0 := hf 0 _ rfl
    have h1 : DataW.trod (fun _ => ()) Tryz.prog w 0 sp false n 5 ((two.drop 1).take (Tryz.prog.cellsOf 5)) = some y1 := hf 1 _ rfl
    have cs1 : Tryz.prog.cellsOf 9 = 1 := by kernel_rfl
    have cs2 : Tryz.prog.cellsOf 5 = 1 := by kernel_rfl
    have cs3 : Tryz.prog.cellsOf 79 = 2 := by kernel_rfl
    rw [cs3] at hl
    rw [cs1] at h0
    rw [cs2] at h1
    obtain ⟨s', e0, f0, _⟩ := DataW.trod_string Tryz.underlying9 h0
    obtain ⟨n', e1, f1, _⟩ := DataW.trod_int Tryz.underlying5 h1
    match two, hl with
    | [a, b], _ =>
      simp at e0 e1
      subst e0; subst e1
      rw [f0, f1] at hx
      simp at hx
      obtain ⟨⟨hs, hc⟩, _⟩ := hx
      subst hc
      rw [hs]
      rfl
set_option maxRecDepth 100000 in
theorem ents_blk {w : World} {laid : List (String × DataW Unit)} (h : laidMet Tryz.prog laid w) (hm : ("chandler/xmlpull.entities", (Rows.laid_chandler_xmlpull_entities : DataW Unit)) ∈ laid) :
    ∃ t, Blk w 0 t #[.string (mkS [108, 116]), .int .u8 60, .string (mkS [103, 116]), .int .u8 62, .string (mkS [97, 109, 112]), .int .u8 38, .string (mkS [113, 117, 111, 116]), .int .u8 34, .string (mkS [97, 112, 111, 115]), .int .u8 39] := by
  obtain ⟨ps, hv, _, hfz⟩ := h
  obtain ⟨g', t', cs, fuel, p, hg', hty', hvar, hd, hps⟩ := laidVars_mem laid ps hv _ _ hm
  have hg : Tryz.prog.globalNamed "chandler/xmlpull.entities" = some 0 := by kernel_rfl
  have hty : (Tryz.prog.globals[0]?).map (·.type) = some 80 := by kernel_rfl
  obtain rfl := Option.some.inj (hg.symm.trans hg')
  obtain rfl := Option.some.inj (hty.symm.trans hty')
  obtain ⟨xs, m, _, hx, hl, hxl, hi⟩ := DataW.trod_array Tryz.underlying80 hd
  have cs3 : Tryz.prog.cellsOf 79 = 2 := by kernel_rfl
  have cs5 : Tryz.prog.cellsOf 80 = 10 := by kernel_rfl
  rw [cs5] at hl
  simp only [cs3] at hi
  match xs, hxl with
  | [x0, x1, x2, x3, x4], _ =>
    unfold Rows.laid_chandler_xmlpull_entities at hx
    simp at hx
    obtain ⟨⟨g0, g1, g2, g3, g4⟩, _⟩ := hx
    have k0 := hi 0 (by decide)
    have k1 := hi 1 (by decide)
    have k2 := hi 2 (by decide)
    have k3 := hi 3 (by decide)
    have k4 := hi 4 (by decide)
    obtain ⟨y0, z0⟩ := x0
    obtain ⟨y1, z1⟩ := x1
    obtain ⟨y2, z2⟩ := x2
    obtain ⟨y3, z3⟩ := x3
    obtain ⟨y4, z4⟩ := x4
    simp only at g0 g1 g2 g3 g4
    subst g0; subst g1; subst g2; subst g3; subst g4
    have q0 := pair_cells k0
    have q1 := pair_cells k1
    have q2 := pair_cells k2
    have q3 := pair_cells k3
    have q4 := pair_cells k4
    have hcs : cs.toList = [.string (mkS [108, 116]), .int .u8 60, .string (mkS [103, 116]), .int .u8 62, .string (mkS [97, 109, 112]), .int .u8 38, .string (mkS [113, 117, 111, 116]), .int .u8 34, .string (mkS [97, 112, 111, 115]), .int .u8 39] := by
      match hcl : cs.toList, hl with
      | [b0, b1, b2, b3, b4, b5, b6, b7, b8, b9], _ =>
        rw [hcl] at q0 q1 q2 q3 q4
        simp at q0 q1 q2 q3 q4
        simp [q0, q1, q2, q3, q4]
    have hsz : cs.size = 10 := by rw [← Array.length_toList, hcs]; rfl
    obtain ⟨⟨c, tc, hb⟩, _⟩ := hfz 0 0 (hps _ (by unfold MemPlace.row; simp; omega))
    have hc : c = cs := by
      unfold World.var? at hvar
      rw [hg] at hvar
      simp [hb] at hvar
      exact hvar
    have he2 : cs = #[.string (mkS [108, 116]), .int .u8 60, .string (mkS [103, 116]), .int .u8 62, .string (mkS [97, 109, 112]), .int .u8 38, .string (mkS [113, 117, 111, 116]), .int .u8 34, .string (mkS [97, 112, 111, 115]), .int .u8 39] := by
      rw [← Array.toArray_toList (xs := cs), hcs]
    exact ⟨tc, by rw [← he2, ← hc]; exact hb⟩
theorem iface_of_shaped {P : Program} {w : World} {g : Nat} {t : TypeId} {zero : Array Value} {ms : Array (String × TypeId)} (h : w.ShapedOpen P) (hg : g < P.globals.size)
    (h0 : ((begin P (fun _ _ => 0) default).world.heap[g]?).bind Obj.row? = some (zero, t)) (hz : zero.size = 1)
    (hb : P.buildable t = true) (hc : P.cellTypes P.depth t = some [t]) (hu : P.underlying t = some (.interface ms)) :
    ∃ ev, w.cell? ⟨g, 0, none⟩ = some ev ∧ (ev = .nilIface ∨ ∃ te pe, ev = .iface te pe) := by
  obtain ⟨cs, hh, hs, hr⟩ := h.1 g zero t hg h0
  obtain ⟨ts, hts, _, hall⟩ := hr hb
  rw [hc] at hts
  cases hts
  have h1 : 0 < cs.size := by omega
  obtain ⟨u, hu', hok⟩ := hall 0 cs[0] (by simp [h1])
  have : u = t := by simpa using hu'.symm
  subst this
  have hcell : w.cell? ⟨g, 0, none⟩ = some cs[0] := by simp [World.cell?, hh, h1]
  refine ⟨cs[0], hcell, ?_⟩
  unfold Cell.ok at hok
  rw [hu] at hok
  cases hv : cs[0] <;> rw [hv] at hok <;> simp at hok ⊢
end Go.Proofs.YtoifibnmincodaaGreatDoor
