/- Whether a job may be; how it is printed. -/
import Derived.Test.YtciogfpejenedaaGreatDoorJbD
import Derived.Test.YtciogfpejenedaaGreatDoorPhase2
namespace Go.Proofs.YtciogfpejenedaaGreatDoor
set_option linter.unusedSimpArgs false
set_option linter.unusedVariables false
open Go.RowKit

def mayX (k h : Int) (s : ByteArray) : Bool := decide ((wordX kindsA k).size ≠ 0) && mayMeanX h s
def printX (k h : Int) (s : ByteArray) : ByteArray := wordX kindsA k ++ ⟨#[32]⟩ ++ wordX howsA h ++ (if h = 5 then ⟨#[]⟩ else ⟨#[32]⟩ ++ s)
def printE (k h : Int) (s : ByteArray) : ByteArray := if mayX k h s = true then printX k h s else ⟨#[]⟩
theorem wordX_size {l : List ByteArray} {n : Nat} (h : ∀ x ∈ l, x.size ≤ n) (i : Int) : (wordX l i).size ≤ n := by
  unfold wordX
  split
  · rw [List.getD_eq_getElem?_getD]
    cases hi : l[i.toNat]? with
    | none => exact Nat.zero_le _
    | some x => exact h x (List.mem_of_getElem? hi)
  · exact Nat.zero_le _
theorem kinds_size (i : Int) : (wordX kindsA i).size ≤ 7 := wordX_size (by decide) i
theorem hows_size (i : Int) : (wordX howsA i).size ≤ 7 := wordX_size (by decide) i
/-- The cells that jobs reads. -/
def KCells (w : World) : Prop := w.cell? ⟨0, 0, none⟩ = some (.string ⟨#[]⟩) ∧ w.cell? ⟨0, 1, none⟩ = some (.string (mkS kw1)) ∧ w.cell? ⟨0, 2, none⟩ = some (.string (mkS kw2)) ∧ w.cell? ⟨0, 3, none⟩ = some (.string (mkS kw3)) ∧ w.cell? ⟨0, 4, none⟩ = some (.string (mkS kw4)) ∧ w.cell? ⟨0, 5, none⟩ = some (.string (mkS kw5)) ∧ w.cell? ⟨0, 6, none⟩ = some (.string (mkS kw6)) ∧ w.cell? ⟨0, 7, none⟩ = some (.string (mkS kw7))
def HCells (w : World) : Prop := w.cell? ⟨1, 0, none⟩ = some (.string ⟨#[]⟩) ∧ w.cell? ⟨1, 1, none⟩ = some (.string (mkS hw1)) ∧ w.cell? ⟨1, 2, none⟩ = some (.string (mkS hw2)) ∧ w.cell? ⟨1, 3, none⟩ = some (.string (mkS hw3)) ∧ w.cell? ⟨1, 4, none⟩ = some (.string (mkS hw4)) ∧ w.cell? ⟨1, 5, none⟩ = some (.string (mkS hw5))
theorem JbW.kcells {w : World} (h : JbW w) : KCells w := by
  obtain ⟨t, hk⟩ := h.kinds
  exact ⟨hk.cell 0, hk.cell 1, hk.cell 2, hk.cell 3, hk.cell 4, hk.cell 5, hk.cell 6, hk.cell 7⟩
theorem JbW.hcells {w : World} (h : JbW w) : HCells w := by
  obtain ⟨t, hk⟩ := h.hows
  exact ⟨hk.cell 0, hk.cell 1, hk.cell 2, hk.cell 3, hk.cell 4, hk.cell 5⟩
theorem wordK_any (k : Int) (w : World) : Calls Tryz.prog 15 #[.agg #[.string ⟨#[]⟩, .string (mkS kw1), .string (mkS kw2), .string (mkS kw3), .string (mkS kw4), .string (mkS kw5), .string (mkS kw6), .string (mkS kw7)], .int .i64 k] w fun e w' => e = .returned (.string (wordX kindsA k)) ∧ Below w.heap.size w w' := word8_any ⟨#[]⟩ (mkS kw1) (mkS kw2) (mkS kw3) (mkS kw4) (mkS kw5) (mkS kw6) (mkS kw7) k w
theorem wordH_any (h : Int) (w : World) : Calls Tryz.prog 16 #[.agg #[.string ⟨#[]⟩, .string (mkS hw1), .string (mkS hw2), .string (mkS hw3), .string (mkS hw4), .string (mkS hw5)], .int .i64 h] w fun e w' => e = .returned (.string (wordX howsA h)) ∧ Below w.heap.size w w' := word6_any ⟨#[]⟩ (mkS hw1) (mkS hw2) (mkS hw3) (mkS hw4) (mkS hw5) h w
set_option maxHeartbeats 4000000 in
set_option maxRecDepth 100000 in
theorem jobMay_any (k h : Int) (s : ByteArray) (hs : s.size ≤ 4194304) (w : World) (hW : JbW w) : Calls Tryz.prog 8 #[.agg #[.int .i64 k, .int .i64 h, .string s]] w fun e w' => e = .returned (.bool (mayX k h s)) ∧ Below w.heap.size w w' := by
  obtain ⟨x, hx⟩ : ∃ x, x = mayX k h s := ⟨_, rfl⟩
  rw [← hx]
  have HX := Lib.hid hx
  obtain ⟨w1, hw1⟩ : ∃ w1, w1 = w.alloc (.cells #[.int .i64 k, .int .i64 h, .string s] 23) := ⟨_, rfl⟩
  have hb1 : Below w.heap.size w w1 := by rw [hw1]; exact (Below.refl _ _).alloc (Nat.le_refl _) _
  have hj : Blk w1 w.heap.size 23 #[.int .i64 k, .int .i64 h, .string s] := by rw [hw1]; exact Blk.new _ _ _
  have HW1 := Lib.hid (hW.below hb1)
  obtain ⟨q0, q1, q2, q3, q4, q5, q6, q7⟩ := HW1.out.kcells
  have c0 : w1.cell? ⟨w.heap.size, 0, none⟩ = some (.int .i64 k) := hj.cell 0
  have CW := Lib.hid (wordK_any k w1)
  have HJ := Lib.hid hj
  have HB1 := Lib.hid hb1
  have CM := Lib.hid (fun wx (hb : Below w1.heap.size w1 wx) => mayMean_any h s hs wx (HW1.out.below hb).tabs)
  clear hx hb1 hj hW
  go_enter Tryz.func8, Tryz.ntmps8
  go_upto_region 1 with fail
  rw [← hw1]
  clear hw1
  generalize hKW : wordX kindsA k = KW at *
  go_wp2_with fail
  refine CW.out.mono ?_
  rintro e w2 ⟨rfl, hb2⟩
  have hj2 := Blk.below HJ.out hb2 HJ.out.lt
  have d1 : w2.cell? ⟨w.heap.size, 1, none⟩ = some (.int .i64 h) := hj2.cell 1
  have d2 : w2.cell? ⟨w.heap.size, 2, none⟩ = some (.string s) := hj2.cell 2
  have CM2 := Lib.hid (CM.out w2 hb2)
  have HB2 := Lib.hid (HB1.out.trans (hb2.mono HB1.out.size))
  clear hb2 hj2 CM CW c0 q0 q1 q2 q3 q4 q5 q6 q7
  by_cases h0 : KW.size = 0
  · have HE : Hid (x = false) := by show x = _; rw [HX.out]; unfold mayX; rw [hKW]; simp [h0]
    obtain rfl := empty_of h0
    clear HX h0 hKW CM2
    go_wp2_with fail
    go_ret
    exact ⟨by (first | (rw [HE.out]; done) | (rw [HE.out]; rfl)), HB2.out⟩
  · have HE : Hid (x = mayMeanX h s) := by show x = _; rw [HX.out]; unfold mayX; rw [hKW]; simp [h0]
    obtain ⟨b1, b2, b3⟩ := blank_of h0
    clear HX h0 hKW
    generalize mayMeanX h s = y at *
    go_wp2_with fail
    refine CM2.out.mono ?_
    rintro e w3 ⟨rfl, hb3⟩
    have HB3 := Lib.hid (HB2.out.trans (hb3.mono HB2.out.size))
    clear hb3 CM2
    go_wp2_with fail
    go_ret
    exact ⟨by (first | (rw [HE.out]; done) | (rw [HE.out]; rfl)), HB3.out⟩
set_option maxHeartbeats 8000000 in
set_option maxRecDepth 100000 in
theorem jobPrint_any (k h : Int) (s : ByteArray) (hs : s.size ≤ 4194304) (w : World) (hW : JbW w) : Calls Tryz.prog 7 #[.agg #[.int .i64 k, .int .i64 h, .string s]] w fun e w' => e = .returned (.tuple #[.string (printE k h s), .int .i64 (if mayX k h s = true then 0 else 140)]) ∧ Below w.heap.size w w' := by
  obtain ⟨P, hP⟩ : ∃ P, P = printE k h s := ⟨_, rfl⟩
  obtain ⟨E, hE⟩ : ∃ E : Int, E = if mayX k h s = true then 0 else 140 := ⟨_, rfl⟩
  rw [← hP, ← hE]
  have HER := Lib.hid hE
  clear hE
  obtain ⟨w1, hw1⟩ : ∃ w1, w1 = w.alloc (.cells #[.int .i64 k, .int .i64 h, .string s] 23) := ⟨_, rfl⟩
  have hb1 : Below w.heap.size w w1 := by rw [hw1]; exact (Below.refl _ _).alloc (Nat.le_refl _) _
  have hj : Blk w1 w.heap.size 23 #[.int .i64 k, .int .i64 h, .string s] := by rw [hw1]; exact Blk.new _ _ _
  have HW1 := Lib.hid (hW.below hb1)
  have c0 : w1.cell? ⟨w.heap.size, 0, none⟩ = some (.int .i64 k) := hj.cell 0
  have c1 : w1.cell? ⟨w.heap.size, 1, none⟩ = some (.int .i64 h) := hj.cell 1
  have c2 : w1.cell? ⟨w.heap.size, 2, none⟩ = some (.string s) := hj.cell 2
  have CB := Lib.hid (jobMay_any k h s hs w1 HW1.out)
  have HJ := Lib.hid hj
  have HB1 := Lib.hid hb1
  have HP := Lib.hid hP
  clear hP hb1 hj hW
  go_enter Tryz.func7, Tryz.ntmps7
  go_upto_region 1 with fail
  rw [← hw1]
  clear hw1
  cases hm : mayX k h s with
  | false =>
    have HE : Hid (P = ⟨#[]⟩) := by show P = _; rw [HP.out]; unfold printE; rw [hm]; rfl
    have HEE : Hid (E = 140) := by show E = _; rw [HER.out, hm]; rfl
    rw [hm] at CB
    clear HP hm HER
    go_wp2_with fail
    refine CB.out.mono ?_
    rintro e w2 ⟨rfl, hb2⟩
    have HB2 := Lib.hid (HB1.out.trans (hb2.mono HB1.out.size))
    clear hb2 CB
    go_wp2_with fail
    go_ret2
    exact ⟨by rw [HE.out, HEE.out]; rfl, HB2.out⟩
  | true =>
    have HE : Hid (P = printX k h s) := by show P = _; rw [HP.out]; unfold printE; rw [hm]; rfl
    have HEE : Hid (E = 0) := by show E = _; rw [HER.out, hm]; rfl
    rw [hm] at CB
    clear HP hm HER
    go_wp2_with fail
    refine CB.out.mono ?_
    rintro e w2 ⟨rfl, hb2⟩
    have HB2 := Lib.hid (HB1.out.trans (hb2.mono HB1.out.size))
    have HW2 := Lib.hid (HW1.out.below hb2)
    have HJ2 := Lib.hid (Blk.below HJ.out hb2 HJ.out.lt)
    have HF : Hid (∀ wx, Below w2.heap.size w2 wx → (KCells wx ∧ HCells wx) ∧ wx.cell? ⟨w.heap.size, 0, none⟩ = some (.int .i64 k) ∧ wx.cell? ⟨w.heap.size, 1, none⟩ = some (.int .i64 h) ∧ wx.cell? ⟨w.heap.size, 2, none⟩ = some (.string s)) := fun wx hb => by
      have h1 := HW2.out.below hb
      have h2 := Blk.below HJ2.out hb HJ2.out.lt
      exact ⟨⟨h1.kcells, h1.hcells⟩, h2.cell 0, h2.cell 1, h2.cell 2⟩
    have kz := kinds_size k
    have hz := hows_size h
    clear hb2 CB HW1 HJ HB1 c0 c1 c2
    have HWK := Lib.hid (fun wx => wordK_any k wx)
    have HWH := Lib.hid (fun wx => wordH_any h wx)
    unfold printX at HE
    generalize wordX kindsA k = KW at *
    generalize wordX howsA h = HW at *
    go_upto_region 3 with fail
    refine wp_region_S (fun _ wx => Below w2.heap.size w2 wx) (by kernel_rfl) ((Below.refl _ _).drew) (fun hS => ?_)
    try simp only [List.getElem_toArray, List.getElem_cons_zero, List.getElem_cons_succ, Act.put, List.setIfInBounds_toArray, List.set_cons_zero, List.set_cons_succ]
    refine wpAnyS_take (i := 0) (fun wx => Below w2.heap.size w2 wx) (v := (.agg #[.string ⟨#[]⟩, .string (mkS kw1), .string (mkS kw2), .string (mkS kw3), .string (mkS kw4), .string (mkS kw5), .string (mkS kw6), .string (mkS kw7)])) rfl (by kernel_rfl) (by kernel_rfl) (by kernel_rfl) (fun _ _ _ h => h) (fun _ _ _ h => h) (fun _ _ => Iff.rfl) (by kernel_rfl) hS (fun wx hSw => ?_) (by kernel_rfl) ?_
    · obtain ⟨⟨⟨a0, a1, a2, a3, a4, a5, a6, a7⟩, e0, e1, e2, e3, e4, e5⟩, c0, c1, c2⟩ := HF.out wx hSw
      go_simp
    clear hS
    intro hS
    try simp only [List.getElem_toArray, List.getElem_cons_zero, List.getElem_cons_succ, Act.put, List.setIfInBounds_toArray, List.set_cons_zero, List.set_cons_succ]
    refine wpAnyS_take (i := 1) (fun wx => Below w2.heap.size w2 wx) (v := (.pointer (some ⟨w.heap.size, 0, none⟩))) rfl (by kernel_rfl) (by kernel_rfl) (by kernel_rfl) (fun _ _ _ h => h) (fun _ _ _ h => h) (fun _ _ => Iff.rfl) (by kernel_rfl) hS (fun wx hSw => ?_) (by kernel_rfl) ?_
    · go_simp
    clear hS
    intro hS
    try simp only [List.getElem_toArray, List.getElem_cons_zero, List.getElem_cons_succ, Act.put, List.setIfInBounds_toArray, List.set_cons_zero, List.set_cons_succ]
    refine wpAnyS_take (i := 2) (fun wx => Below w2.heap.size w2 wx) (v := (.int .i64 k)) rfl (by kernel_rfl) (by kernel_rfl) (by kernel_rfl) (fun _ _ _ h => h) (fun _ _ _ h => h) (fun _ _ => Iff.rfl) (by kernel_rfl) hS (fun wx hSw => ?_) (by kernel_rfl) ?_
    · obtain ⟨⟨⟨a0, a1, a2, a3, a4, a5, a6, a7⟩, e0, e1, e2, e3, e4, e5⟩, c0, c1, c2⟩ := HF.out wx hSw
      go_simp
    clear hS
    intro hS
    try simp only [List.getElem_toArray, List.getElem_cons_zero, List.getElem_cons_succ, Act.put, List.setIfInBounds_toArray, List.set_cons_zero, List.set_cons_succ]
    refine wpAnyS_take (i := 5) (fun wx => Below w2.heap.size w2 wx) (v := (.agg #[.string ⟨#[]⟩, .string (mkS hw1), .string (mkS hw2), .string (mkS hw3), .string (mkS hw4), .string (mkS hw5)])) rfl (by kernel_rfl) (by kernel_rfl) (by kernel_rfl) (fun _ _ _ h => h) (fun _ _ _ h => h) (fun _ _ => Iff.rfl) (by kernel_rfl) hS (fun wx hSw => ?_) (by kernel_rfl) ?_
    · obtain ⟨⟨⟨a0, a1, a2, a3, a4, a5, a6, a7⟩, e0, e1, e2, e3, e4, e5⟩, c0, c1, c2⟩ := HF.out wx hSw
      go_simp
    clear hS
    intro hS
    try simp only [List.getElem_toArray, List.getElem_cons_zero, List.getElem_cons_succ, Act.put, List.setIfInBounds_toArray, List.set_cons_zero, List.set_cons_succ]
    refine wpAnyS_take (i := 6) (fun wx => Below w2.heap.size w2 wx) (v := (.pointer (some ⟨w.heap.size, 1, none⟩))) rfl (by kernel_rfl) (by kernel_rfl) (by kernel_rfl) (fun _ _ _ h => h) (fun _ _ _ h => h) (fun _ _ => Iff.rfl) (by kernel_rfl) hS (fun wx hSw => ?_) (by kernel_rfl) ?_
    · go_simp
    clear hS
    intro hS
    try simp only [List.getElem_toArray, List.getElem_cons_zero, List.getElem_cons_succ, Act.put, List.setIfInBounds_toArray, List.set_cons_zero, List.set_cons_succ]
    refine wpAnyS_take (i := 7) (fun wx => Below w2.heap.size w2 wx) (v := (.int .i64 h)) rfl (by kernel_rfl) (by kernel_rfl) (by kernel_rfl) (fun _ _ _ h => h) (fun _ _ _ h => h) (fun _ _ => Iff.rfl) (by kernel_rfl) hS (fun wx hSw => ?_) (by kernel_rfl) ?_
    · obtain ⟨⟨⟨a0, a1, a2, a3, a4, a5, a6, a7⟩, e0, e1, e2, e3, e4, e5⟩, c0, c1, c2⟩ := HF.out wx hSw
      go_simp
    clear hS
    intro hS
    try simp only [List.getElem_toArray, List.getElem_cons_zero, List.getElem_cons_succ, Act.put, List.setIfInBounds_toArray, List.set_cons_zero, List.set_cons_succ]
    refine wpAnyS_one (i := 3) (by kernel_rfl) rfl (fun K hK => ?_)
    go_simp
    refine (HWK.out _).mono ?_
    rintro e w3 ⟨rfl, hb⟩
    have Hw3 : Hid (Below w2.heap.size w2 w3) := hS.trans (hb.mono hS.size)
    refine hK.out _ _ Hw3.out ?_
    clear hS hK hb
    intro hS
    try simp only [List.getElem_toArray, List.getElem_cons_zero, List.getElem_cons_succ, Act.put, List.setIfInBounds_toArray, List.set_cons_zero, List.set_cons_succ]
    refine wpAnyS_take (i := 4) (fun wx => Below w2.heap.size w2 wx) (v := (.string (KW ++ ⟨#[32]⟩))) rfl (by kernel_rfl) (by kernel_rfl) (by kernel_rfl) (fun _ _ _ h => h) (fun _ _ _ h => h) (fun _ _ => Iff.rfl) (by kernel_rfl) hS (fun wx hSw => ?_) (by kernel_rfl) ?_
    · go_simp; omega
    clear hS
    intro hS
    try simp only [List.getElem_toArray, List.getElem_cons_zero, List.getElem_cons_succ, Act.put, List.setIfInBounds_toArray, List.set_cons_zero, List.set_cons_succ]
    refine wpAnyS_one (i := 8) (by kernel_rfl) rfl (fun K hK => ?_)
    go_simp
    refine (HWH.out _).mono ?_
    rintro e w4 ⟨rfl, hb⟩
    have Hw4 : Hid (Below w2.heap.size w2 w4) := hS.trans (hb.mono hS.size)
    refine hK.out _ _ Hw4.out ?_
    clear hS hK hb
    intro hS
    try simp only [List.getElem_toArray, List.getElem_cons_zero, List.getElem_cons_succ, Act.put, List.setIfInBounds_toArray, List.set_cons_zero, List.set_cons_succ]
    refine wpAnyS_take (i := 9) (fun wx => Below w2.heap.size w2 wx) (v := (.string (KW ++ ⟨#[32]⟩ ++ HW))) rfl (by kernel_rfl) (by kernel_rfl) (by kernel_rfl) (fun _ _ _ h => h) (fun _ _ _ h => h) (fun _ _ => Iff.rfl) (by kernel_rfl) hS (fun wx hSw => ?_) (by kernel_rfl) ?_
    · go_simp; omega
    clear hS
    intro hS
    try simp only [List.getElem_toArray, List.getElem_cons_zero, List.getElem_cons_succ, Act.put, List.setIfInBounds_toArray, List.set_cons_zero, List.set_cons_succ]
    refine wpAnyS_take (i := 10) (fun wx => Below w2.heap.size w2 wx) (v := (.string (KW ++ ⟨#[32]⟩ ++ HW))) rfl (by kernel_rfl) (by kernel_rfl) (by kernel_rfl) (fun _ _ _ h => h) (fun _ _ _ h => h) (fun _ _ => Iff.rfl) (by kernel_rfl) hS (fun wx hSw => ?_) (by kernel_rfl) ?_
    · go_simp
    clear hS
    intro hS
    try simp only [List.getElem_toArray, List.getElem_cons_zero, List.getElem_cons_succ, Act.put, List.setIfInBounds_toArray, List.set_cons_zero, List.set_cons_succ]
    refine wpAnyS_done (by kernel_rfl) ?_ _
    try simp only [List.getElem_toArray, List.getElem_cons_zero, List.getElem_cons_succ, Act.put, List.setIfInBounds_toArray, List.set_cons_zero, List.set_cons_succ]
    obtain ⟨-, c0, c1, c2⟩ := HF.out w4 Hw4.out
    have HB4 := Lib.hid (HB2.out.trans (Hw4.out.mono HB2.out.size))
    by_cases h5 : h = 5
    · have HG : Hid (P = KW ++ ⟨#[32]⟩ ++ HW) := by show P = _; rw [HE.out, if_pos h5]; exact ByteArray.append_empty
      subst h5
      clear HE
      go_wp2_with fail
      go_ret2
      exact ⟨by (first | (rw [HG.out, HEE.out]; done) | (rw [HG.out, HEE.out]; rfl)), HB4.out⟩
    · have HG : Hid (P = KW ++ ⟨#[32]⟩ ++ HW ++ (⟨#[32]⟩ ++ s)) := by show P = _; rw [HE.out, if_neg h5]
      have q5 : (h != 5) = true := by simp [h5]
      have z1 : (⟨#[32]⟩ ++ s : ByteArray).size = 1 + s.size := by simp; rfl
      clear HE h5
      go_wp2_with fail
      go_ret2
      exact ⟨by (first | (rw [HG.out, HEE.out]; done) | (rw [HG.out, HEE.out]; rfl)), HB4.out⟩
end Go.Proofs.YtciogfpejenedaaGreatDoor
