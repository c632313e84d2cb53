/- What all laws begin with: awake. -/
import Derived.Test.YtoifibnmincodaaGreatDoorXsm
import Derived.Test.YtoifibnmincodaaGreatDoorXev
import Derived.LaidLaws
import Derived.Test.YtoifibnmincodaaGreatDoorUp
namespace Go.Proofs.YtoifibnmincodaaGreatDoor
set_option linter.unusedSimpArgs false
set_option linter.unusedVariables false
open Go.RowKit

def txt1 : Bs := [60, 97, 32, 120, 61, 34, 49, 32, 38, 97, 109, 112, 59, 32, 50, 34, 62, 60, 98, 47, 62, 116, 60, 33, 45, 45, 32, 99, 32, 45, 45, 62, 117, 60, 47, 97, 62]
def txt2 : Bs := [60, 97, 62, 60, 98, 62, 60, 47, 97, 62]
def pcs1 : List Pc := [⟨1, [97], [([120], [49, 32, 38, 32, 50])], []⟩, ⟨1, [98], [], []⟩, ⟨2, [98], [], []⟩, ⟨3, [], [], [116, 117]⟩, ⟨2, [97], [], []⟩]
theorem all1 : allX txt1 = (pcs1, 0) := by kernel_rfl
theorem all2 : (allX txt2).2 = 101 := by kernel_rfl
theorem pcsR_of {w : World} {base n c : Nat} {A : Option Addr} {ps : List Pc} {cs : List Value} (h : w.ownsRow base 32 4 (.slice A n c) ps.length cs) (hp : PcL w ps cs) : PcsR w A ps := fun k pc hk => by
  obtain ⟨A', c', h0, h1, h2, h3, hl, hm, hA⟩ := hp.at_ hk
  obtain ⟨b, rfl, q0⟩ := own_ats h h0
  obtain ⟨b1, e1, q1⟩ := own_ats h h1
  obtain ⟨b2, e2, q2⟩ := own_ats h h2
  obtain ⟨b3, e3, q3⟩ := own_ats h h3
  injection e1 with e1; injection e1 with e1; subst e1
  injection e2 with e2; injection e2 with e2; subst e2
  injection e3 with e3; injection e3 with e3; subst e3
  refine ⟨b, 0, A', c', rfl, ?_, ?_, ?_, ?_, hl, hm, hA.rd⟩
  · rw [Nat.zero_add]; exact q0
  · rw [Nat.zero_add]; exact q1
  · rw [Nat.zero_add]; exact q2
  · rw [Nat.zero_add]; exact q3
def wantA : Array Value := #[.string (mkS [120]), .string (mkS [49, 32, 38, 32, 50])]
def wantP (b : Nat) : Array Value := #[.int .i64 1, .string (mkS [97]), .slice (some ⟨b, 0, none⟩) 1 1, .string (mkS []), .int .i64 1, .string (mkS [98]), .slice none 0 0, .string (mkS []), .int .i64 2, .string (mkS [98]), .slice none 0 0, .string (mkS []), .int .i64 3, .string (mkS []), .slice none 0 0, .string (mkS [116, 117]), .int .i64 2, .string (mkS [97]), .slice none 0 0, .string (mkS [])]
theorem want_at {w : World} {b : Nat} (hA : Blk w b 29 wantA) (hP : Blk w (b + 1) 32 (wantP b)) : PcsR w (some ⟨b + 1, 0, none⟩) pcs1 := fun k pc hk => by
  match k, hk with
  | 0, hk =>
    injection hk with hk; subst hk
    refine ⟨b + 1, 0, some ⟨b, 0, none⟩, 1, rfl, hP.cell _, hP.cell _, hP.cell _, hP.cell _, Nat.le_refl _, by unfold maxLen; omega, fun j a hj => ?_⟩
    match j, hj with
    | 0, hj => injection hj with hj; subst hj; exact ⟨b, 0, rfl, hA.cell _, hA.cell _⟩
    | j + 1, hj => simp at hj
  | 1, hk => injection hk with hk; subst hk; exact ⟨b + 1, 0, none, 0, rfl, hP.cell _, hP.cell _, hP.cell _, hP.cell _, Nat.le_refl _, by unfold maxLen; omega, fun j a hj => by cases hj⟩
  | 2, hk => injection hk with hk; subst hk; exact ⟨b + 1, 0, none, 0, rfl, hP.cell _, hP.cell _, hP.cell _, hP.cell _, Nat.le_refl _, by unfold maxLen; omega, fun j a hj => by cases hj⟩
  | 3, hk => injection hk with hk; subst hk; exact ⟨b + 1, 0, none, 0, rfl, hP.cell _, hP.cell _, hP.cell _, hP.cell _, Nat.le_refl _, by unfold maxLen; omega, fun j a hj => by cases hj⟩
  | 4, hk => injection hk with hk; subst hk; exact ⟨b + 1, 0, none, 0, rfl, hP.cell _, hP.cell _, hP.cell _, hP.cell _, Nat.le_refl _, by unfold maxLen; omega, fun j a hj => by cases hj⟩
  | k + 5, hk => simp [pcs1] at hk
set_option maxHeartbeats 4000000 in
set_option maxRecDepth 100000 in
theorem awake_any (W : World) {B : Nat} (hE : XEnv B W) : Calls Tryz.prog 8 #[] W fun e w' => e = .returned (.bool true) ∧ Below W.heap.size W w' := by
  have C1 := Lib.hid (all_any txt1 hE)
  have C2 := Lib.hid (fun w' (hb : Below W.heap.size W w') => all_any txt2 (hE.below hb))
  clear hE
  unfold AllPost at C1 C2
  rw [all1] at C1
  rw [all2] at C2
  simp only at C1
  go_enter Tryz.func8, Tryz.ntmps8
  go_wp2_with fail
  refine C1.out.mono ?_
  rintro e w1 ⟨v, cs, rfl, hown, hpc, hb⟩
  obtain ⟨A, c, rfl, hnc, hcm⟩ := own_form' hown
  obtain ⟨w2, hw2⟩ : ∃ w2, w2 = (w1.alloc (.cells wantA 29)).alloc (.cells (wantP w1.heap.size) 32) := ⟨_, rfl⟩
  have hb2 : Below w1.heap.size w1 w2 := by rw [hw2]; exact ((Below.refl _ _).alloc (Nat.le_refl _) _).alloc (by simp) _
  have hA2 : Blk w2 w1.heap.size 29 wantA := by rw [hw2]; exact (Blk.new _ _ _).alloc _
  have hP2 : Blk w2 (w1.heap.size + 1) 32 (wantP w1.heap.size) := by rw [hw2]; exact Blk.new' (by simp)
  have CS := Lib.hid (same_pcs w2 A (some ⟨w1.heap.size + 1, 0, none⟩) pcs1 pcs1 c 5 ((pcsR_of hown hpc).below hb2) (want_at hA2 hP2) hnc (by decide) hcm (by unfold maxLen; omega))
  have HB2 := Lib.hid (hb.trans (hb2.mono hb.size))
  have hlen : pcs1.length = 5 := rfl
  rw [hlen] at CS
  clear hown hpc hb hA2 hP2 hb2 C1
  unfold wantA wantP mkS at hw2
  go_upto_region 3 with fail
  rw [← hw2]
  clear hw2
  go_wp2_with fail
  refine CS.out.mono ?_
  rintro e w3 ⟨⟨r, rfl, hr⟩, hb3⟩
  have hr1 : r = true := by simpa using hr
  subst hr1
  have HB3 := Lib.hid (HB2.out.trans (hb3.mono HB2.out.size))
  have C3 := Lib.hid (C2.out w3 HB3.out)
  clear hr hb3 CS C2 HB2
  go_wp2_with fail
  refine C3.out.mono ?_
  rintro e w4 ⟨v4, cs4, rfl, -, -, hb4⟩
  have HB4 := Lib.hid (HB3.out.trans (hb4.mono HB3.out.size))
  clear hb4 C3 HB3
  go_wp2_with fail
  go_ret
  exact ⟨rfl, HB4.out⟩
theorem err_cell {w : World} {laid : List (String × DataW Unit)} (h : laidMet Tryz.prog laid w) (hm : ("strconv.ErrSyntax", (Rows.laid_strconv_ErrSyntax : DataW Unit)) ∈ laid) :
    ∃ ev, w.cell? ⟨10, 0, none⟩ = some ev ∧ (ev = .nilIface ∨ ∃ te pe, ev = .iface te pe) := by
  obtain ⟨ps, hv, _, hfz⟩ := h
  obtain ⟨g', t', cs, fuel, p, hg', hty', hvar, hd, hps⟩ := laidVars_mem laid ps hv _ _ hm
  have hg : Tryz.prog.globalNamed "strconv.ErrSyntax" = some 10 := by kernel_rfl
  have hty : (Tryz.prog.globals[10]?).map (·.type) = some 52 := by kernel_rfl
  obtain rfl := Option.some.inj (hg.symm.trans hg')
  obtain rfl := Option.some.inj (hty.symm.trans hty')
  unfold Rows.laid_strconv_ErrSyntax at hd
  obtain ⟨f', u, v, hcs, -, -⟩ := iface_of_trod Tryz.underlying52 hd
  have hsz : cs.size = 1 := by rw [← Array.length_toList, hcs]; rfl
  obtain ⟨⟨c, tc, hb⟩, _⟩ := hfz 10 0 (hps _ (by unfold MemPlace.row; simp; omega))
  have hc : c = cs := by
    unfold World.var? at hvar
    rw [hg] at hvar
    simp [hb] at hvar
    exact hvar
  have hcell := cell_of_row w 10 0 c tc (0, 0) hb
  have h0 : c[0]? = some (.iface u v) := by rw [hc, ← Array.getElem?_toList, hcs]; rfl
  exact ⟨.iface u v, hcell.trans h0, .inr ⟨u, v, rfl⟩⟩
theorem xenv_of {W : World} {laid : List (String × DataW Unit)} (hL : laidMet Tryz.prog laid W) (hm : ("chandler/xmlpull.entities", (Rows.laid_chandler_xmlpull_entities : DataW Unit)) ∈ laid) (hm2 : ("strconv.ErrSyntax", (Rows.laid_strconv_ErrSyntax : DataW Unit)) ∈ laid) (hS : W.ShapedOpen Tryz.prog) : XEnv W.heap.size W := by
  have h1 : ∃ m, W.cell? ⟨4, 0, none⟩ = some (.int .i64 m) := Go.Proofs.cell_of_shapedOpen_int (zero := #[.int .i64 0]) (t := 3) hS (of_decide_eq_true (by kernel_rfl)) (by kernel_rfl) rfl (by kernel_rfl) (by kernel_rfl) Tryz.underlying3
  have h2 := ents_blk hL hm
  have h3 := err_cell hL hm2
  refine ⟨h1, h2, h3, ⟨?_, ?_, ?_⟩, Nat.le_refl _⟩
  · obtain ⟨m, h1⟩ := h1; exact cell_lt h1
  · obtain ⟨t, h2⟩ := h2; exact Blk.lt h2
  · obtain ⟨ev, h3, _⟩ := h3; exact cell_lt h3
end Go.Proofs.YtoifibnmincodaaGreatDoor
