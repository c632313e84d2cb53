/- The contract of chandlerref01.Same: whether two lists are the same. -/
import Derived.Test.YthgagobdkcikiaaDoorIWords
import Derived.Deep.QuietTactic
import Derived.BigQuiet
namespace Go.Proofs.YthgagobdkcikiaaDoor.Ids
set_option linter.unusedSimpArgs false
set_option linter.unusedVariables false
open Go.RowKit

set_option maxHeartbeats 400000 in
theorem same_any (A A' : Option Addr) (c c' B B' : Nat) (n m : Nat) (xs ys : List Int) (w : World) (hl : xs.length = n) (hl' : ys.length = m) (hn : n ≤ 140737488355328) (hr : Rd w B A (i64s xs)) (hr' : Rd w B' A' (i64s ys)) :
    Calls Tryd.prog 16 #[.slice A n c, .slice A' m c'] w fun e w' => e = .returned (.bool (decide (xs = ys))) ∧ ∃ k, w' = w.drewN k := by
  by_cases hnm : n = m
  · subst hnm
    have HL := Lib.hid hl
    have HL' := Lib.hid hl'
    clear hl hl'
    have hne : ((n : Int) != (n : Int)) = false := by simp
    go_enter Tryd.func16, Tryd.ntmps16
    go_wp2
    clear hne
    go_loopw [5] (fun i wr => ∃ k : Nat, k ≤ n ∧ i = .int .i64 (k : Int) ∧ Hid (xs.take k = ys.take k) ∧ ∃ d, wr = w.drewN d) (fun i _ => n - (intOf i).toNat)
    case atStart => exact ⟨0, by omega, rfl, rfl, 0, rfl⟩
    case round =>
      obtain ⟨k, hk, rfl, hx, d, rfl⟩ := hrel
      by_cases hlt : k < n
      · have hk1 : k < xs.length := by rw [HL.out]; exact hlt
        have hk2 : k < ys.length := by rw [HL'.out]; exact hlt
        obtain ⟨b, o, rfl, _, hc⟩ := hr k (.int .i64 (xs[k]'hk1)) (by simp [i64s, List.getElem?_eq_getElem hk1])
        obtain ⟨b', o', rfl, _, hc'⟩ := hr' k (.int .i64 (ys[k]'hk2)) (by simp [i64s, List.getElem?_eq_getElem hk2])
        have e1 : Hid (xs.take (k + 1) = xs.take k ++ [xs[k]'hk1]) := (List.take_append_getElem hk1).symm
        have e2 : Hid (ys.take (k + 1) = ys.take k ++ [ys[k]'hk2]) := (List.take_append_getElem hk2).symm
        have e3 : Hid (xs[k]? = some (xs[k]'hk1)) := List.getElem?_eq_getElem hk1
        have e4 : Hid (ys[k]? = some (ys[k]'hk2)) := List.getElem?_eq_getElem hk2
        generalize xs[k]'hk1 = x at hc e1 e3
        generalize ys[k]'hk2 = y at hc' e2 e4
        clear hr hr' hk1 hk2
        by_cases hxy : x = y
        · subst hxy
          have hne : (x != x) = false := by simp
          go_wp2
          go_quiet (fail)
          go_wp2
          go_roundw
          case rel => go_light; exact ⟨k + 1, by omega, by go_num, by show xs.take (k + 1) = ys.take (k + 1); rw [e1.out, e2.out, hx.out], _, by first | rfl | rw [World.drewN_drewN]⟩
          case measure => go_light; simp only [intOf]; omega
        · have hne : (x != y) = true := by simpa using hxy
          have HX := Lib.hid hxy
          clear hxy
          go_wp2
          go_quiet (fail)
          go_wp2
          go_ret
          have hd : decide (xs = ys) = false := by
            rw [decide_eq_false_iff_not]; intro e; subst e
            exact HX.out (Option.some.inj (e3.out.symm.trans e4.out))
          exact ⟨by rw [hd]; rfl, _, by first | rfl | rw [World.drewN_drewN]⟩
      · go_wp2
        go_ret
        have hd : decide (xs = ys) = true := by
          rw [decide_eq_true_iff]
          have h1 := hx.out
          rwa [List.take_of_length_le (by have := HL.out; omega), List.take_of_length_le (by have := HL'.out; omega)] at h1
        exact ⟨by rw [hd]; rfl, _, by first | rfl | rw [World.drewN_drewN]⟩
  · have hne : ((n : Int) != (m : Int)) = true := by simp; omega
    have hd : Hid (decide (xs = ys) = false) := by
      show decide (xs = ys) = false
      rw [decide_eq_false_iff_not]; rintro rfl; omega
    clear hnm
    go_enter Tryd.func16, Tryd.ntmps16
    go_wp2
    go_ret
    exact ⟨by rw [hd.out]; rfl, 0, rfl⟩
end Go.Proofs.YthgagobdkcikiaaDoor.Ids
