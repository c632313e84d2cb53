/- The walk of EvrMeets. -/
import Derived.Test.YtbfpljlgjpmmmaaDoorAwake
import Derived.Test.YtbfpljlgjpmmmaaDoorRefJ
namespace Go.Proofs.YtbfpljlgjpmmmaaDoor
set_option linter.unusedSimpArgs false
set_option linter.unusedVariables false
open Go.RowKit
theorem sign_swap (c op o : Int) : signB (-c) o op = signB c op o := by
  unfold signB
  by_cases h1 : c < 0
  · rw [if_pos h1, if_neg (by omega), if_pos (by omega), Bool.or_comm]
  · by_cases h2 : 0 < c
    · rw [if_neg h1, if_pos h2, if_pos (by omega), Bool.or_comm]
    · rw [if_neg h1, if_neg h2, if_neg (by omega), if_neg (by omega), Bool.and_comm (hasB o 2), Bool.and_comm (hasB o 1), Bool.and_comm (hasB o 4)]
theorem meetC_swap (kind : Int) (p q : Parts) : meetC kind q p = -meetC kind p q := by
  have e1 := (ordEV kind).anti p q
  have e2 := (ordRel kind).anti p.r q.r
  unfold meetC
  rw [e1, e2]
  by_cases h : cmpEV kind p q = 0 ∧ p.r ≠ [] ∧ q.r ≠ []
  · rw [if_pos h, if_pos ⟨by omega, h.2.2, h.2.1⟩]
  · rw [if_neg h, if_neg (fun hh => h ⟨by omega, hh.2.2, hh.2.1⟩)]
theorem bothErr_swap (kind : Int) (A B : Option Parts) : bothErr kind B A = bothErr kind A B := by unfold bothErr; rw [Bool.and_comm]
theorem swap_and (k x y : Bool) : (k && y && x) = (k && x && y) := by cases k <;> cases x <;> cases y <;> rfl
theorem meetE_swap (kind op o : Int) (A B : Option Parts) : meetE kind o op B A = meetE kind op o A B := by
  unfold meetE
  rw [swap_and (kindB kind) (opB op) (opB o), bothErr_swap]
  congr 1
  by_cases h : op = 0 ∨ o = 0
  · rw [if_pos h, if_pos h.symm]
  · rw [if_neg h, if_neg (fun g => h g.symm)]
theorem meetB_swap (kind op o : Int) (A B : Option Parts) : meetB kind o op B A = meetB kind op o A B := by
  unfold meetB
  rw [swap_and (kindB kind) (opB op) (opB o)]
  congr 1
  by_cases h : op = 0 ∨ o = 0
  · rw [if_pos h, if_pos h.symm]
  · rw [if_neg h, if_neg (fun g => h g.symm)]
    cases A with
    | none => cases B <;> rfl
    | some p => cases B with
      | none => rfl
      | some q =>
        show signB (meetC kind q p) o op = signB (meetC kind p q) op o
        rw [meetC_swap, sign_swap]

set_option maxHeartbeats 4000000 in
set_option maxRecDepth 1000000 in
theorem evrMeets_walk {H : Type} {enc : TypeId × Value → H} (W : World) {v0 v1 v2 v3 v4 : Value} {d0 d1 d2 d3 d4 : DataW H} (h0 : In enc Tryd.prog W 3 v0 d0) (h1 : In enc Tryd.prog W 3 v1 d1) (h2 : In enc Tryd.prog W 9 v2 d2) (h3 : In enc Tryd.prog W 3 v3 d3) (h4 : In enc Tryd.prog W 9 v4 d4)
    (hL : laidMetH Tryd.prog Rows.evrMeetsRow.laid W) (hsz : (DataW.weightsEach Tryd.prog [3, 3, 9, 3, 9] [d0, d1, d2, d3, d4]).all (· ≤ reachBytes) = true) :
    Calls Tryd.prog 6 #[v0, v1, v2, v3, v4] W (TrueBelow W) := by
  obtain ⟨kind, rfl, _, _⟩ := h0.int Tryd.underlying3
  obtain ⟨op, rfl, _, _⟩ := h1.int Tryd.underlying3
  obtain ⟨a, rfl, _, ha⟩ := h2.string Tryd.underlying9
  obtain ⟨o, rfl, _, _⟩ := h3.int Tryd.underlying3
  obtain ⟨b, rfl, _, hb⟩ := h4.string Tryd.underlying9
  clear h0 h1 h2 h3 h4 hL hsz
  have C1 := Lib.hid (fun w => meets_any kind op o a b w)
  have C2 := Lib.hid (fun w => refMeets_any kind op o a b ha hb w)
  have C3 := Lib.hid (fun w => meets_any kind o op b a w)
  rw [meetB_swap, meetE_swap] at C3
  generalize meetB kind op o (parse a.data.toList) (parse b.data.toList) = x at *
  generalize meetE kind op o (parse a.data.toList) (parse b.data.toList) = y at *
  clear ha hb
  go_enter Tryd.func6, Tryd.ntmps6
  go_wp2_with fail
  refine (awake_any _).mono ?_
  rintro e w1 ⟨rfl, hb1⟩
  have HB1 := Lib.hid hb1
  have hz1 := hb1.size
  clear hb1
  go_wp2_with fail
  refine (C1.out _).mono ?_
  rintro e w2 ⟨rfl, hb2⟩
  have HB2 := Lib.hid (HB1.out.trans (hb2.mono hz1))
  have hz2 := HB2.out.size
  clear hb2
  go_wp2_with fail
  refine (C2.out _).mono ?_
  rintro e w3 ⟨rfl, hb3⟩
  have HB3 := Lib.hid (HB2.out.trans (hb3.mono hz2))
  have hz3 := HB3.out.size
  clear hb3
  go_wp2_with fail
  refine (C3.out _).mono ?_
  rintro e w4 ⟨rfl, hb4⟩
  have HB4 := Lib.hid (HB3.out.trans (hb4.mono hz3))
  clear hb4
  go_wp2_with fail
  go_ret
  exact ⟨rfl, HB4.out⟩
end Go.Proofs.YtbfpljlgjpmmmaaDoor
