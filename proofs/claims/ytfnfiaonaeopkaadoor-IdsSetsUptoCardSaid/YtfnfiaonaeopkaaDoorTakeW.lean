/- The contract of ids.Take: what is read of any bytes. -/
import Derived.Test.YtfnfiaonaeopkaaDoorWords
namespace Go.Proofs.YtfnfiaonaeopkaaDoor.old
set_option linter.unusedSimpArgs false
set_option linter.unusedVariables false
open Go.RowKit

set_option maxHeartbeats 400000 in
theorem take_any (A : Option Addr) (n c B : Nat) (bs : List Nat) (w : World) (hb : ∀ x ∈ bs, x < 256) (hl : bs.length = n) (hn : n ≤ 140737488355328) (hr : Rd w B A (u8s bs)) :
    Calls Tryd.prog 17 #[.slice A n c] w fun e w' => e = .returned (.tuple #[.int .u64 ((takeF 0 0 bs).1 : Nat), .int .i64 ((takeF 0 0 bs).2.1 : Nat), .int .i64 ((takeF 0 0 bs).2.2 : Nat)]) ∧ w' = w := by
  go_enter Tryd.func17, Tryd.ntmps17
  go_wp2
  go_loop [5, 10] (fun a i => ∃ k x : Nat, k ≤ n ∧ k ≤ 9 ∧ i = .int .i64 k ∧ a = .int .u64 x ∧ x < 2 ^ (7 * k) ∧ takeF k x (bs.drop k) = takeF 0 0 bs) (fun _ i => n - (intOf i).toNat)
  case atStart => exact ⟨0, 0, by omega, by omega, rfl, rfl, by simp, by simp⟩
  case round =>
    obtain ⟨k, x, hk, hk9, rfl, rfl, hx, ht⟩ := hrel
    by_cases hlt : k < n
    · obtain ⟨b, o, rfl, hB, hc⟩ := hr k (.int .u8 ((bs[k]'(by omega)) : Nat)) (by simp [u8s, List.getElem?_eq_getElem (show k < bs.length by omega)])
      have hc256 : (bs[k]'(by omega)) < 256 := hb _ (List.getElem_mem _)
      have hdrop : bs.drop k = bs[k]'(by omega) :: bs.drop (k + 1) := List.drop_eq_getElem_cons (by omega)
      generalize bs[k]'(by omega) = y at hc hc256 hdrop
      rw [hdrop] at ht
      have HT := Lib.hid ht
      have HX := Lib.hid hx
      have HC := Lib.hid hc256
      clear ht hx hr hb hc256 hdrop
      by_cases h1 : k = 9 ∧ 1 < y
      · obtain ⟨rfl, h1⟩ := h1
        have h1' : (1 : Int) < (y : Int) := by omega
        go_wp2
        go_ret3
        refine ⟨?_, rfl⟩
        rw [← HT.out, takeF, if_pos ⟨rfl, h1⟩]
        rfl
      · have hstep := acc_step k x y HX.out (by omega)
        have HS := Lib.hid hstep
        clear hstep
        by_cases h2 : 128 ≤ y
        · have h2' : (128 : Int) ≤ (y : Int) := by omega
          by_cases h9 : k = 9
          · exact absurd ⟨h9, by omega⟩ h1
          · have h9' : ((k : Int) == 9) = false := by simp; omega
            have HE : Hid (takeF (k + 1) (x + y % 128 * 2 ^ (7 * k)) (bs.drop (k + 1)) = takeF 0 0 bs) := by
              have := HT.out
              rw [takeF, if_neg h1, if_pos h2] at this
              exact this
            clear h1
            go_wp2
            go_round
            case rel => go_light; exact ⟨k + 1, x + y % 128 * 2 ^ (7 * k), by omega, by omega, by go_num, by rw [HS.out.1], HS.out.2.1, HE.out⟩
            case measure => first | (simp [intOf]; done) | (simp [intOf]; omega)
        · have h2' : ¬ (128 : Int) ≤ (y : Int) := by omega
          by_cases h3 : y = 0 ∧ 0 < k
          · have HE : Hid ((0, 0, 11) = takeF 0 0 bs) := by
              have := HT.out
              rw [takeF, if_neg h1, if_neg h2, if_pos h3] at this
              exact this
            obtain ⟨rfl, h3⟩ := h3
            have h3' : (0 : Int) < (k : Int) := by omega
            clear h1 h2
            go_wp2
            all_goals
              go_ret3
              refine ⟨?_, rfl⟩
              rw [← HE.out]
              rfl
          · have HE : Hid ((x + y % 128 * 2 ^ (7 * k), k + 1, 0) = takeF 0 0 bs) := by
              have := HT.out
              rw [takeF, if_neg h1, if_neg h2, if_neg h3] at this
              exact this
            by_cases h0 : y = 0
            · have h0' : ((y : Int) == 0) = true := by simp; omega
              have hk0 : ¬ ((0 : Int) < (k : Int)) := by omega
              have h9' : ((k : Int) == 9) = false := by simp; omega
              clear h0 h1 h2 h3
              go_wp2
              all_goals
                go_ret3
                refine ⟨?_, rfl⟩
                rw [← HE.out]
                exact ret3 HS.out.1 rfl rfl
            · have h0' : ((y : Int) == 0) = false := by simp; omega
              by_cases h9 : k = 9
              · have h9' : ((k : Int) == 9) = true := by simp; omega
                have hy1 : ¬ ((1 : Int) < (y : Int)) := by omega
                clear h0 h9 h1 h2 h3
                go_wp2
                all_goals
                  go_ret3
                  refine ⟨?_, rfl⟩
                  rw [← HE.out]
                  exact ret3 HS.out.1 rfl rfl
              · have h9' : ((k : Int) == 9) = false := by simp; omega
                clear h0 h9 h1 h2 h3
                go_wp2
                all_goals
                  go_ret3
                  refine ⟨?_, rfl⟩
                  rw [← HE.out]
                  exact ret3 HS.out.1 rfl rfl
    · go_wp2
      go_ret3
      refine ⟨?_, rfl⟩
      rw [← ht, List.drop_eq_nil_of_le (by omega)]
      rfl
end Go.Proofs.YtfnfiaonaeopkaaDoor.old
