/- What may be an architecture's name. -/
import Derived.Test.YtahodhodkgdgnaaMath
namespace Go.Proofs.Ytahodhodkgdgnaa
set_option linter.unusedSimpArgs false
set_option linter.unusedVariables false
open Go.RowKit

theorem mayI (c : UInt8) : mayC c = (decide ((97 : Int) ≤ (c.toNat : Int)) && decide ((c.toNat : Int) ≤ 122) || decide ((48 : Int) ≤ (c.toNat : Int)) && decide ((c.toNat : Int) ≤ 57) || ((c.toNat : Int) == 95)) := by
  unfold mayC
  rw [Bool.eq_iff_iff]; simp; omega
set_option maxRecDepth 100000 in
theorem mayBe_any : IsPred 21 mayC := by
  intro c w
  have h := Lib.hid (mayI c)
  go_enter Try.func21, Try.ntmps21
  go_wp2_with fail
  all_goals
    go_ret
    refine ⟨ret_bool ?_, rfl⟩
    rw [h.out, Bool.eq_iff_iff]
    simp <;> omega

theorem nameB_bad {l : List UInt8} (h : l.length = 0 ∨ 20 < l.length) : nameB l = false := by
  unfold nameB
  rcases h with h | h
  · rw [decide_eq_false (p := 1 ≤ l.length) (by omega)]; simp
  · rw [decide_eq_false (p := l.length ≤ 20) (by omega)]; simp
theorem nameB_not {l : List UInt8} {c : UInt8} (hc : c ∈ l) (h : mayC c = false) : nameB l = false := by
  unfold nameB
  have : l.all mayC = false := by
    cases hx : l.all mayC with
    | false => rfl
    | true =>
      have := List.all_eq_true.1 hx c hc
      rw [h] at this; cases this
  rw [this]; rfl
theorem nameB_yes {l : List UInt8} (h : l.all mayC = true) (h1 : 1 ≤ l.length) (h2 : l.length ≤ 20) : nameB l = true := by
  unfold nameB; rw [h, decide_eq_true h1, decide_eq_true h2]; rfl

set_option maxRecDepth 100000 in
theorem isName_any (s : ByteArray) (hs : s.size ≤ maxLen) (w : World) :
    Calls Try.prog 16 #[.string s] w fun e w' => e = .returned (.bool (nameB s.data.toList)) ∧ w = w' := by
  unfold maxLen at hs
  by_cases h0 : s.size = 0
  · have H := Lib.hid (nameB_bad (l := s.data.toList) (.inl (by rw [size_len]; exact h0)))
    obtain rfl := empty_of h0
    clear h0
    go_enter Try.func16, Try.ntmps16
    go_wp2_with fail
    go_ret
    exact ⟨ret_bool (by rw [H.out]), rfl⟩
  have he := toList_cons (s := s) (by omega)
  by_cases h20 : 20 < s.size
  · have H := Lib.hid (nameB_bad (l := s.data.toList) (.inr (by rw [size_len]; exact h20)))
    have h20' : (20 : Int) < (s.size : Int) := by omega
    clear h0 h20
    go_enter Try.func16, Try.ntmps16
    go_wp2_with fail
    go_ret
    exact ⟨ret_bool (by rw [H.out]), rfl⟩
  have h20' : ¬ (20 : Int) < (s.size : Int) := by omega
  go_enter Try.func16, Try.ntmps16
  go_wp2_with fail
  go_loop [13] (fun i => ∃ k : Nat, k ≤ s.size ∧ i = .int .i64 (k : Int) ∧ Hid ((s.data.toList.take k).all mayC = true)) (fun i => s.size - (intOf i).toNat)
  case atStart => exact ⟨0, Nat.zero_le _, rfl, show (s.data.toList.take 0).all mayC = true from rfl⟩
  case round =>
    obtain ⟨k, hk, rfl, hall⟩ := hrel
    by_cases hlt : k < s.size
    · have HB := Lib.hid (byte_at hlt)
      have C := Lib.hid (mayBe_any s[k])
      have HY := Lib.hid (fun (h : mayC s[k] = true) => all_snoc hall.out HB.out h)
      have HN := Lib.hid (fun (h : mayC s[k] = false) => nameB_not (List.mem_of_getElem? HB.out) h)
      clear hall
      generalize mayC s[k] = m at *
      cases m
      all_goals
        go_wp2_with fail
        refine (C.out _).mono ?_
        rintro e w1 ⟨rfl, rfl⟩
        go_wp2_with fail
      · go_ret
        exact ⟨ret_bool (by rw [HN.out (by simp)]), rfl⟩
      · go_round
        case rel => exact ⟨k + 1, by omega, by go_num, HY.out (by simp)⟩
        case measure => simp [intOf]; omega
    · have HM := Lib.hid (show nameB s.data.toList = true from nameB_yes (by
        have := hall.out
        rwa [List.take_of_length_le (by rw [size_len]; omega)] at this) (by rw [size_len]; omega) (by rw [size_len]; omega))
      go_wp2_with fail
      go_ret
      exact ⟨ret_bool (by rw [HM.out]), rfl⟩

set_option maxHeartbeats 1000000 in
set_option maxRecDepth 100000 in
theorem refName_any (s : ByteArray) (hs : s.size ≤ maxLen) (w : World) :
    Calls Try.prog 18 #[.string s] w fun e w' => e = .returned (.bool (nameB s.data.toList)) ∧ w = w' := by
  unfold maxLen at hs
  go_enter Try.func18, Try.ntmps18
  go_wp2_with fail
  go_loop [3] (fun i => ∃ k : Nat, k ≤ s.size ∧ i = .int .i64 (k : Int) ∧ Hid ((s.data.toList.take k).all mayC = true)) (fun i => s.size - (intOf i).toNat)
  case atStart => exact ⟨0, Nat.zero_le _, rfl, show (s.data.toList.take 0).all mayC = true from rfl⟩
  case round =>
    obtain ⟨k, hk, rfl, hall⟩ := hrel
    by_cases hlt : k < s.size
    · have HB := Lib.hid (byte_at hlt)
      have HI := Lib.hid (mayI s[k])
      have HY := Lib.hid (fun (h : mayC s[k] = true) => all_snoc hall.out HB.out h)
      have HN := Lib.hid (fun (h : mayC s[k] = false) => nameB_not (List.mem_of_getElem? HB.out) h)
      clear hall
      generalize mayC s[k] = m at *
      go_wp2_with fail
      all_goals first
        | (go_ret
           refine ⟨ret_bool ?_, rfl⟩
           rw [HN.out (by
             rw [HI.out, Bool.eq_false_iff]
             intro hx
             simp at hx
             simp_all <;> omega)])
        | (go_round
           case rel => exact ⟨k + 1, by omega, by go_num, HY.out (by
             rw [HI.out]
             simp
             simp_all <;> omega)⟩
           case measure => simp [intOf]; omega)
    · have HM : Hid (nameB s.data.toList = (decide (1 ≤ s.size) && decide (s.size ≤ 20))) := by
        show nameB _ = _
        have := hall.out
        rw [List.take_of_length_le (by rw [size_len]; omega)] at this
        unfold nameB
        rw [this, size_len]; rfl
      go_wp2_with fail
      all_goals
        go_ret
        refine ⟨ret_bool ?_, rfl⟩
        rw [HM.out, Bool.eq_iff_iff]
        simp <;> omega
end Go.Proofs.Ytahodhodkgdgnaa
