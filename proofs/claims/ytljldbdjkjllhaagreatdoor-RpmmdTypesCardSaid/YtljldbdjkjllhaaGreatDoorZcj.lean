/- Pieces in memory; New; All. What the rows list of the package's variables, in memory. -/
import Derived.Test.YtljldbdjkjllhaaGreatDoorZci
import Derived.Deep.LoopGhost
import Derived.Test.YtljldbdjkjllhaaGreatDoorZca
import Derived.Test.YtljldbdjkjllhaaGreatDoorRows
import Derived.Stop.LaidErr
import Derived.MakeChecks
import Derived.OpenShut
import Derived.Shelf.Vars
import Derived.ChangeSame
/- Pieces in memory; New; All. -/
namespace Go.Proofs.YtljldbdjkjllhaaGreatDoor
set_option linter.unusedSimpArgs false
set_option linter.unusedVariables false
open Go.RowKit

def PcL (w : World) : List Pc → List Value → Prop
  | [], cs => cs = []
  | p :: r, cs => ∃ A c t, cs = (pcC p A c).toList ++ t ∧ p.attrs.length ≤ c ∧ c ≤ maxLen ∧ AlK w A p.attrs ∧ PcL w r t
theorem PcL.turned {w w' : World} {F : List Nat} (ht : Turned F w w') (hF : ∀ k ∈ F, ∀ cs, ¬ Blk w k 172 cs) : ∀ {l : List Pc} {cs : List Value}, PcL w l cs → PcL w' l cs
  | [], _, h => h
  | p :: r, cs, ⟨A, c, t, h1, h2, h3, h4, h5⟩ => ⟨A, c, t, h1, h2, h3, h4.turned ht hF, PcL.turned ht hF h5⟩
theorem PcL.snoc {w : World} {pc : Pc} {A : Option Addr} {c : Nat} (h2 : pc.attrs.length ≤ c) (h3 : c ≤ maxLen) (h4 : AlK w A pc.attrs) : ∀ {l : List Pc} {cs : List Value}, PcL w l cs → PcL w (l ++ [pc]) (cs ++ (pcC pc A c).toList)
  | [], cs, h => by
    have h : cs = [] := h
    subst h
    exact ⟨A, c, [], by simp, h2, h3, h4, rfl⟩
  | p :: r, cs, ⟨A', c', t, h1, k2, k3, k4, k5⟩ => ⟨A', c', t ++ (pcC pc A c).toList, by rw [h1, List.append_assoc], k2, k3, k4, PcL.snoc h2 h3 h4 k5⟩
theorem PcL.at_ {w : World} : ∀ {l : List Pc} {cs : List Value} {k : Nat} {pc : Pc}, PcL w l cs → l[k]? = some pc →
    ∃ A c, cs[k * 4]? = some (.int .i64 pc.kind) ∧ cs[k * 4 + 1]? = some (.string (mkS pc.name)) ∧ cs[k * 4 + 2]? = some (.slice A pc.attrs.length c) ∧ cs[k * 4 + 3]? = some (.string (mkS pc.text)) ∧ pc.attrs.length ≤ c ∧ c ≤ maxLen ∧ AlK w A pc.attrs
  | [], _, _, _, _, h => by cases h
  | p :: r, cs, 0, pc, ⟨A, c, t, h1, h2, h3, h4, h5⟩, h => by
    injection h with h; subst h; subst h1
    exact ⟨A, c, rfl, rfl, rfl, rfl, h2, h3, h4⟩
  | p :: r, cs, k + 1, pc, ⟨A, c, t, h1, h2, h3, h4, h5⟩, h => by
    subst h1
    have := PcL.at_ (k := k) h5 (by simpa using h)
    have e : ∀ j, ((pcC p A c).toList ++ t)[(k + 1) * 4 + j]? = t[k * 4 + j]? := fun j => by
      rw [List.getElem?_append_right (by show 4 ≤ _; omega)]
      congr 1
      show (k + 1) * 4 + j - 4 = _
      omega
    have e0 := e 0
    simp only [Nat.add_zero] at e0
    rw [e0, e 1, e 2, e 3]
    exact this
/-- All that a text tells, and the error. -/
def s0X (l : Bs) : XS := ⟨l, [], false, false⟩
def allX (l : Bs) : List Pc × Int := if 40000 < l.length then ([], 104) else allN (muX (s0X l) + 1) (s0X l)
set_option maxHeartbeats 1000000 in
set_option maxRecDepth 100000 in
theorem new_long (l : Bs) (hl : 40000 < l.length) (w : World) :
    Calls Tryz.prog 27 #[.string (mkS l)] w fun e w' => e = .returned (.tuple #[.pointer none, .int .i64 104]) ∧ w = w' := by
  have hz : (40000 : Int) < ((mkS l).size : Int) := by rw [mkS_size]; omega
  generalize mkS l = S at *
  go_enter Tryz.func27, Tryz.ntmps27
  go_wp2_with fail
  go_ret2
  exact ⟨rfl, rfl⟩
set_option maxHeartbeats 1000000 in
set_option maxRecDepth 100000 in
theorem new_short (l : Bs) (hl : l.length ≤ 40000) (w : World) :
    Calls Tryz.prog 27 #[.string (mkS l)] w fun e w' => ∃ g, e = .returned (.tuple #[.pointer (some ⟨g, 0, none⟩), .int .i64 0]) ∧ XRd w' w.heap.size g (.slice none 0 0) (s0X l) 0 ∧ Below w.heap.size w w' := by
  have hz : ¬ (40000 : Int) < ((mkS l).size : Int) := by rw [mkS_size]; omega
  have C := Lib.hid (clone_any (mkS l) w (by rw [mkS_size]; exact hl))
  have HX : Hid (∀ w1, Below w.heap.size w w1 → XRd (w1.alloc (.cells #[.string (mkS l), .slice none 0 0, .bool false, .bool false, .int .i64 0] 98)) w.heap.size w1.heap.size (.slice none 0 0) (s0X l) 0 ∧ Below w.heap.size w (w1.alloc (.cells #[.string (mkS l), .slice none 0 0, .bool false, .bool false, .int .i64 0] 98))) := fun w1 hb =>
    ⟨⟨Blk.new _ _ _, World.ownsRow_nil _ _ _ _, hb.size⟩, hb.alloc hb.size _⟩
  generalize mkS l = S at *
  go_enter Tryz.func27, Tryz.ntmps27
  go_wp2_with fail
  refine C.out.mono ?_
  rintro e w1 ⟨rfl, hb⟩
  have HX1 := Lib.hid (HX.out w1 hb)
  clear hb C HX
  go_wp2_with fail
  go_ret2
  exact ⟨_, rfl, HX1.out⟩
structure AlS (w0 : World) (B g : Nat) (vo : Value) (s : XS) (l : List Pc) (v : Value) (cs : List Value) (w : World) : Prop where
  rd : XRd w w0.heap.size g vo s 0
  row : w.ownsRow w0.heap.size 68 4 v l.length cs
  pcs : PcL w l cs
  bel : Below w0.heap.size w0 w
  env : XEnv B w
theorem info_pc : ∃ i z, Tryz.prog.info? 68 = some i ∧ i.zero = some z ∧ z.cells.size = 4 ∧ i.size = 4 ∧ i.bytes = 64 := by
  have h : (Tryz.prog.info? 68).map (fun i => (i.zero.map fun z => z.cells.size, i.size, i.bytes)) = some (some 4, 4, 64) := by kernel_rfl
  obtain ⟨i, hi, h2⟩ := Option.map_eq_some_iff.1 h
  simp only [Prod.mk.injEq] at h2
  obtain ⟨z, hz, hz1⟩ := Option.map_eq_some_iff.1 h2.1
  exact ⟨i, z, hi, hz, hz1, h2.2.1, h2.2.2⟩
section
variable {w w' w0 : World} {B g : Nat} {vo vo' v v' : Value} {s s' : XS} {l : List Pc} {cs : List Value}
theorem AlS.next (h : AlS w0 B g vo s l v cs w) (hB : B ≤ w0.heap.size) (ht : Turned (fOf g vo) w w') (hx : XRd w' w0.heap.size g vo' s' 0) : AlS w0 B g vo' s' l v cs w' :=
  ⟨hx, own_turned h.row ht (fun k hk hm => h.rd.apart h.row (by decide) (by decide) k (by rw [hk]; simp) hm), h.pcs.turned ht (fun k hk cs => h.rd.not_kind hk (by decide) (by decide)),
    h.bel.trans (ht.below (fun k hk => h.rd.base_le hk) h.bel.size), h.env.turned ht (fun k hk => Nat.le_trans hB (h.rd.base_le hk))⟩
theorem AlS.new_ (h : AlS w0 B g vo s l v cs w) (o : Obj) : AlS w0 B g vo s l v cs (w.alloc o) := by
  have ht : Turned [] w (w.alloc o) := (Turned.refl _ _).alloc _
  exact ⟨h.rd.turned ht (fun k hk => by cases hk), own_turned h.row ht (fun k _ hk => by cases hk), h.pcs.turned ht (fun k hk => by cases hk), h.bel.alloc h.bel.size _, h.env.turned ht (fun k hk => by cases hk)⟩
theorem AlS.put (h : AlS w0 B g vo s l v cs w) (hB : B ≤ w0.heap.size) {pc : Pc} {A : Option Addr} {c : Nat} (h2 : pc.attrs.length ≤ c) (h3 : c ≤ maxLen) (h4 : AlK w A pc.attrs) (hg : w.grownBy w' v.ownBlock)
    (ho : w'.ownsRow w0.heap.size 68 4 v' (l.length + 1) (cs ++ (pcC pc A c).toList)) : AlS w0 B g vo s (l ++ [pc]) v' (cs ++ (pcC pc A c).toList) w' := by
  have ht := turned_grown hg
  have hk : ∀ k ∈ v.ownBlock.toList, ∀ cs, ¬ Blk w k 172 cs := fun k hk cs hb => by
    have hk : v.ownBlock = some k := by simpa using hk
    exact own_kind h.row hb (by decide) hk
  have hlo : ∀ k ∈ v.ownBlock.toList, w0.heap.size ≤ k := fun k hk => (h.row.lt k (by simpa using hk)).1
  exact ⟨h.rd.turned ht (h.rd.apart h.row (by decide) (by decide)), by rw [List.length_append]; exact ho, (h.pcs.snoc h2 h3 h4).turned ht hk, h.bel.trans (ht.below hlo h.bel.size), h.env.turned ht (fun k hk => Nat.le_trans hB (hlo k hk))⟩
def AllPost (w : World) (l : Bs) (e : Ending) (w' : World) : Prop := ∃ v cs, e = .returned (.tuple #[v, .int .i64 (allX l).2]) ∧ w'.ownsRow w.heap.size 68 4 v (allX l).1.length cs ∧ PcL w' (allX l).1 cs ∧ Below w.heap.size w w'
set_option maxHeartbeats 8000000 in
set_option maxRecDepth 1000000 in
theorem all_any (l : Bs) (hE : XEnv B w0) : Calls Tryz.prog 14 #[.string (mkS l)] w0 (AllPost w0 l) := by
  by_cases hl : 40000 < l.length
  · have HX : Hid (allX l = ([], 104)) := by show allX l = _; unfold allX; rw [if_pos hl]
    have C := Lib.hid (new_long l hl w0)
    have HV : Hid (AllPost w0 l (.returned (.tuple #[.slice none 0 0, .int .i64 104])) w0) := by
      refine ⟨.slice none 0 0, [], by rw [HX.out], ?_, ?_, Below.refl _ _⟩
      · rw [HX.out]; exact World.ownsRow_nil _ _ _ _
      · rw [HX.out]; rfl
    clear hl hE HX
    generalize mkS l = S at *
    go_enter Tryz.func14, Tryz.ntmps14
    go_wp2_with fail
    refine C.out.mono ?_
    rintro e w1 ⟨rfl, rfl⟩
    clear C
    go_wp2_with fail
    go_ret2
    exact HV.out
  · have HX : Hid (allX l = allN (muX (s0X l) + 1) (s0X l)) := by show allX l = _; unfold allX; rw [if_neg hl]
    have C := Lib.hid (new_short l (by omega) w0)
    have hOk : XOk (s0X l) := ⟨by show l.length ≤ 40000; omega, Nat.zero_le _, fun h => by cases h⟩
    have hmu : muX (s0X l) ≤ 80000 := by show 2 * l.length + 0 ≤ _; omega
    have HB : Hid (B ≤ w0.heap.size) := hE.size
    have HE := Lib.hid hE
    obtain ⟨ip, zp, hip, hzp, hzp1, hzp2, hzp3⟩ := info_pc
    have HIP := Lib.hid hip
    have HOK := Lib.hid hOk
    clear hl hE hip hOk
    generalize s0X l = s0 at *
    generalize mkS l = S at *
    go_enter Tryz.func14, Tryz.ntmps14
    go_wp2_with fail
    refine C.out.mono ?_
    rintro e w1 ⟨g, rfl, hx, hb⟩
    have HS : Hid (AlS w0 B g (.slice none 0 0) s0 [] (.slice none 0 0) [] w1) := ⟨hx, World.ownsRow_nil _ _ _ _, rfl, hb, HE.out.below hb⟩
    clear hx hb C
    go_wp2_with fail
    go_loopg [6, 7, 8] (muX s0 + 1) (fun gk v7 v8 v9 wx => ∃ s vo l' cs, Hid (AlS w0 B g vo s l' v7 cs wx) ∧ Hid (XOk s) ∧ muX s < gk ∧ l'.length + muX s ≤ 80001 ∧ Hid (allX l = (l' ++ (allN gk s).1, (allN gk s).2)))
    case atStart => exact ⟨s0, _, [], [], HS, HOK, by omega, by simp; omega, HX.out⟩
    case round =>
      obtain ⟨s, vo, l', cs, hS, hO, hm, hn, hT⟩ := hrel
      obtain ⟨k, rfl⟩ : ∃ k, gk = k + 1 := ⟨gk - 1, by omega⟩
      have CN := Lib.hid (Next_live hS.out.rd hS.out.env HB.out hO.out)
      obtain ⟨Av, cv, hv, hncv, hcmv⟩ := own_form' hS.out.row
      subst hv
      unfold maxLen at hcmv
      go_wp2_with fail
      refine CN.out.mono ?_
      rintro e w2 ⟨ht, vo', s', hf, ⟨pc, A, c, hr, rfl, hx, hl2, hc2, hA⟩ | ⟨e, hr, rfl, hx⟩⟩
      · obtain ⟨ho', hmu'⟩ := nextR_mu hO.out hr
        have HS2 := Lib.hid (hS.out.next HB.out ht hx)
        have hsz2 : w0.heap.size ≤ w2.heap.size := HS2.out.bel.size
        by_cases h4 : pc.kind = 4
        · have t4 : (pc.kind == 4) = true := by rw [h4]; rfl
          have HT2 : Hid (allX l = (l', 0)) := by show allX l = _; rw [hT.out, allN_done hr h4]; simp
          have HV : Hid (∀ o, AllPost w0 l (.returned (.tuple #[.slice Av l'.length cv, .int .i64 0])) (w2.alloc o)) := fun o => by
            have h := HS2.out.new_ o
            refine ⟨_, cs, by rw [HT2.out], ?_, ?_, h.bel⟩
            · rw [HT2.out]; exact h.row
            · rw [HT2.out]; exact h.pcs
          clear ht hf hx hA hr hmu' h4 ho' hT
          unfold pcV
          generalize pc.kind = kd at *
          go_wp2_with fail
          go_ret2
          exact HV.out _
        · have t4 : (pc.kind == 4) = false := beq_eq_false_iff_ne.2 h4
          have hm2 := hmu' h4
          have HT2 : Hid (allX l = ((l' ++ [pc]) ++ (allN k s').1, (allN k s').2)) := by show allX l = _; rw [hT.out, allN_more hr h4]; simp
          have HO2 := Lib.hid ho'
          have HS3 := Lib.hid (HS2.out.new_ (.cells #[.int .i64 pc.kind, .string (mkS pc.name), .slice A pc.attrs.length c, .string (mkS pc.text)] 68))
          have HS4 := Lib.hid (HS3.out.new_ (.cells #[.int .i64 pc.kind, .string (mkS pc.name), .slice A pc.attrs.length c, .string (mkS pc.text)] 68))
          have hA4 : AlK ((w2.alloc (.cells #[.int .i64 pc.kind, .string (mkS pc.name), .slice A pc.attrs.length c, .string (mkS pc.text)] 68)).alloc (.cells #[.int .i64 pc.kind, .string (mkS pc.name), .slice A pc.attrs.length c, .string (mkS pc.text)] 68)) A pc.attrs := hA.turned (((Turned.refl [] w2).alloc _).alloc _) (fun k hk => by cases hk)
          have HPUT := Lib.hid (fun v' w' hg ho => HS4.out.put (v' := v') (w' := w') HB.out hl2 hc2 hA4 hg ho)
          have HCN : Hid (∀ j u, (pcC pc A c).toList[j]? = some u → ((w2.alloc (.cells #[.int .i64 pc.kind, .string (mkS pc.name), .slice A pc.attrs.length c, .string (mkS pc.text)] 68)).alloc (.cells #[.int .i64 pc.kind, .string (mkS pc.name), .slice A pc.attrs.length c, .string (mkS pc.text)] 68)).cell? ((⟨w2.heap.size + 1, 0, none⟩ : Addr).add j) = some u) := fun j u hj => by
            have h := cells_new (w2.alloc (.cells #[.int .i64 pc.kind, .string (mkS pc.name), .slice A pc.attrs.length c, .string (mkS pc.text)] 68)) #[.int .i64 pc.kind, .string (mkS pc.name), .slice A pc.attrs.length c, .string (mkS pc.text)] 68 j u hj
            simpa using h
          clear ht hf hx hA hr hmu' h4 ho' hT hA4
          unfold pcV
          go_wp2_with (at_builtin; refine wpList_append_own_at _ rfl (.tmp 31) (.tmp 33) 28 rfl w0.heap.size 68 ip zp 4 64 Tryz.underlying28 HIP.out hzp hzp2 hzp3 hzp1 (by decide) (.slice Av l'.length cv) l'.length cs rfl HS4.out.row ⟨w2.heap.size + 1, 0, none⟩ 1 1 (pcC pc A c).toList rfl rfl HCN.out (by intro u hu; simp [pcC] at hu; rcases hu with rfl | rfl | rfl | rfl <;> rfl) (by unfold maxLen; omega) (by omega) (by simp; omega) ?_; intro v7' w7 hown7 hg7 hnil7 hat7; have HX7 := Lib.hid (HPUT.out v7' w7 hg7 hown7); clear hown7 hg7 hnil7 hat7)
          go_roundg k
          case measure => omega
          case rel => exact ⟨s', vo', l' ++ [pc], _, HX7, HO2, by omega, by simp; omega, HT2⟩
      · have hx' := hx
        have HT2 : Hid (allX l = (l', e)) := by show allX l = _; rw [hT.out, allN_err hr]; simp
        have hne : e ≠ 0 := nextR_err hr
        have te : (e == 0) = false := beq_eq_false_iff_ne.2 hne
        have tn : (e != 0) = true := by simp [hne]
        have HV : Hid (∀ o, AllPost w0 l (.returned (.tuple #[.slice Av l'.length cv, .int .i64 e])) (w2.alloc o)) := fun o => by
          have hro : Turned [] w2 (w2.alloc o) := (Turned.refl _ _).alloc _
          refine ⟨_, cs, by rw [HT2.out], ?_, ?_, ?_⟩
          · rw [HT2.out]; exact own_turned (own_turned hS.out.row ht (fun k hk hm => hS.out.rd.apart hS.out.row (by decide) (by decide) k (by rw [hk]; simp) hm)) hro (fun k _ hk => by cases hk)
          · rw [HT2.out]; exact (hS.out.pcs.turned ht (fun k hk cs => hS.out.rd.not_kind hk (by decide) (by decide))).turned hro (fun k hk => by cases hk)
          · exact (hS.out.bel.trans (ht.below (fun k hk => hS.out.rd.base_le hk) hS.out.bel.size)).alloc (Nat.le_trans hS.out.bel.size ht.size) _
        clear ht hf hx hx' hr hT hne
        unfold zeroP
        go_wp2_with fail
        go_ret2
        exact HV.out _
end
end Go.Proofs.YtljldbdjkjllhaaGreatDoor

/- What the rows list of the package's variables, in memory. -/
namespace Go.Proofs.YtljldbdjkjllhaaGreatDoor
set_option linter.unusedSimpArgs false
set_option linter.unusedVariables false
open Go.RowKit

theorem laidVars_mem {P : Program} {w : World} : ∀ (laid : List (String × DataW Unit)) (ps : List MemPlace), DataW.LaidVars P w laid ps → ∀ n d, (n, d) ∈ laid →
    ∃ g t cs fuel p, P.globalNamed n = some g ∧ (P.globals[g]?).map (·.type) = some t ∧ w.var? P n = some cs ∧ DataW.trod (fun _ => ()) P w 0 (fun _ => true) false fuel t cs.toList = some (d, p) ∧ ∀ x ∈ MemPlace.row ⟨g, 0, none⟩ cs.size, x ∈ ps
  | [], ps, h, n, d, hm => by cases hm
  | (n0, d0) :: r, ps, h, n, d, hm => by
    obtain ⟨g, t, cs, fuel, p, q, h1, h2, h3, h4, h5, rfl⟩ := h
    rcases List.mem_cons.1 hm with he | hm
    · injection he with e1 e2
      subst e1
      subst e2
      exact ⟨g, t, cs, fuel, p, h1, h2, h3, h4, fun x hx => by simp [hx]⟩
    · obtain ⟨g', t', cs', fuel', p', k1, k2, k3, k4, k5⟩ := laidVars_mem r q h5 n d hm
      exact ⟨g', t', cs', fuel', p', k1, k2, k3, k4, fun x hx => by simp [k5 x hx]⟩
set_option maxRecDepth 100000 in
theorem pair_cells {w : World} {sp : Nat → Bool} {fuel : Nat} {two : List Value} {s : List UInt8} {c : Int} {p : List MemPlace}
    (h : DataW.trod (fun _ => ()) Tryz.prog w 0 sp false fuel 91 two = some (.agg [.lit (.string s), .lit (.int .u8 c)], p)) : two = [.string (mkS s), .int .u8 c] := by
  obtain ⟨xs, n, _, hx, hl, hxl, hf⟩ := DataW.trod_struct Tryz.underlying91 h
  match xs, hxl, hf, hx with
  | [y0, y1], _, hf, hx =>
    have h0 : DataW.trod (fun _ => ()) Tryz.prog w 0 sp false n 9 ((two.drop 0).take (Tryz.prog.cellsOf 9)) = some y0 := hf 0 _ rfl
    have h1 : DataW.trod (fun _ => ()) Tryz.prog w 0 sp false n 5 ((two.drop 1).take (Tryz.prog.cellsOf 5)) = some y1 := hf 1 _ rfl
    have cs1 : Tryz.prog.cellsOf 9 = 1 := by kernel_rfl
    have cs2 : Tryz.prog.cellsOf 5 = 1 := by kernel_rfl
    have cs3 : Tryz.prog.cellsOf 91 = 2 := by kernel_rfl
    rw [cs3] at hl
    rw [cs1] at h0
    rw [cs2] at h1
    obtain ⟨s', e0, f0, _⟩ := DataW.trod_string Tryz.underlying9 h0
    obtain ⟨n', e1, f1, _⟩ := DataW.trod_int Tryz.underlying5 h1
    match two, hl with
    | [a, b], _ =>
      simp at e0 e1
      subst e0; subst e1
      rw [f0, f1] at hx
      simp at hx
      obtain ⟨⟨hs, hc⟩, _⟩ := hx
      subst hc
      rw [hs]
      rfl
set_option maxRecDepth 100000 in
theorem ents_blk {w : World} {laid : List (String × DataW Unit)} (h : laidMet Tryz.prog laid w) (hm : ("chandler/xmlpull.entities", (Rows.laid_chandler_xmlpull_entities : DataW Unit)) ∈ laid) :
    ∃ t, Blk w 0 t #[.string (mkS [108, 116]), .int .u8 60, .string (mkS [103, 116]), .int .u8 62, .string (mkS [97, 109, 112]), .int .u8 38, .string (mkS [113, 117, 111, 116]), .int .u8 34, .string (mkS [97, 112, 111, 115]), .int .u8 39] := by
  obtain ⟨ps, hv, _, hfz⟩ := h
  obtain ⟨g', t', cs, fuel, p, hg', hty', hvar, hd, hps⟩ := laidVars_mem laid ps hv _ _ hm
  have hg : Tryz.prog.globalNamed "chandler/xmlpull.entities" = some 0 := by kernel_rfl
  have hty : (Tryz.prog.globals[0]?).map (·.type) = some 92 := by kernel_rfl
  obtain rfl := Option.some.inj (hg.symm.trans hg')
  obtain rfl := Option.some.inj (hty.symm.trans hty')
  obtain ⟨xs, m, _, hx, hl, hxl, hi⟩ := DataW.trod_array Tryz.underlying92 hd
  have cs3 : Tryz.prog.cellsOf 91 = 2 := by kernel_rfl
  have cs5 : Tryz.prog.cellsOf 92 = 10 := by kernel_rfl
  rw [cs5] at hl
  simp only [cs3] at hi
  match xs, hxl with
  | [x0, x1, x2, x3, x4], _ =>
    unfold Rows.laid_chandler_xmlpull_entities at hx
    simp at hx
    obtain ⟨⟨g0, g1, g2, g3, g4⟩, _⟩ := hx
    have k0 := hi 0 (by decide)
    have k1 := hi 1 (by decide)
    have k2 := hi 2 (by decide)
    have k3 := hi 3 (by decide)
    have k4 := hi 4 (by decide)
    obtain ⟨y0, z0⟩ := x0
    obtain ⟨y1, z1⟩ := x1
    obtain ⟨y2, z2⟩ := x2
    obtain ⟨y3, z3⟩ := x3
    obtain ⟨y4, z4⟩ := x4
    simp only at g0 g1 g2 g3 g4
    subst g0; subst g1; subst g2; subst g3; subst g4
    have q0 := pair_cells k0
    have q1 := pair_cells k1
    have q2 := pair_cells k2
    have q3 := pair_cells k3
    have q4 := pair_cells k4
    have hcs : cs.toList = [.string (mkS [108, 116]), .int .u8 60, .string (mkS [103, 116]), .int .u8 62, .string (mkS [97, 109, 112]), .int .u8 38, .string (mkS [113, 117, 111, 116]), .int .u8 34, .string (mkS [97, 112, 111, 115]), .int .u8 39] := by
      match hcl : cs.toList, hl with
      | [b0, b1, b2, b3, b4, b5, b6, b7, b8, b9], _ =>
        rw [hcl] at q0 q1 q2 q3 q4
        simp at q0 q1 q2 q3 q4
        simp [q0, q1, q2, q3, q4]
    have hsz : cs.size = 10 := by rw [← Array.length_toList, hcs]; rfl
    obtain ⟨⟨c, tc, hb⟩, _⟩ := hfz 0 0 (hps _ (by unfold MemPlace.row; simp; omega))
    have hc : c = cs := by
      unfold World.var? at hvar
      rw [hg] at hvar
      simp [hb] at hvar
      exact hvar
    have he2 : cs = #[.string (mkS [108, 116]), .int .u8 60, .string (mkS [103, 116]), .int .u8 62, .string (mkS [97, 109, 112]), .int .u8 38, .string (mkS [113, 117, 111, 116]), .int .u8 34, .string (mkS [97, 112, 111, 115]), .int .u8 39] := by
      rw [← Array.toArray_toList (xs := cs), hcs]
    exact ⟨tc, by rw [← he2, ← hc]; exact hb⟩
end Go.Proofs.YtljldbdjkjllhaaGreatDoor
