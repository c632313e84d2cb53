/- The document's answer: its small functions of bytes and texts. -/
import Derived.Test.YtinldjjbfhpnkaaDoorByte
namespace Go.Proofs.YtinldjjbfhpnkaaDoor
set_option linter.unusedSimpArgs false
set_option linter.unusedVariables false
open Go.RowKit

theorem u8_eq {a b : UInt8} : ((a.toNat : Int) == (b.toNat : Int)) = decide (a = b) := by
  rw [Bool.eq_iff_iff]
  simp only [beq_iff_eq, decide_eq_true_eq]
  constructor
  · intro h; exact UInt8.toNat_inj.1 (by omega)
  · rintro rfl; rfl
set_option maxRecDepth 100000 in
theorem refIn_any (c : UInt8) (s : ByteArray) (hs : s.size ≤ maxLen) (w : World) :
    Calls Tryd.prog 56 #[.int .u8 (c.toNat : Int), .string s] w fun e w' => e = .returned (.bool (decide (c ∈ s.data.toList))) ∧ w = w' := by
  unfold maxLen at hs
  generalize hz : decide (c ∈ s.data.toList) = z
  have HZ := Lib.hid hz
  clear hz
  go_enter Tryd.func56, Tryd.ntmps56
  go_wp2_with fail
  go_loop [5] (fun i => ∃ k : Nat, k ≤ s.size ∧ i = .int .i64 (k : Int) ∧ Hid (c ∉ s.data.toList.take k)) (fun i => s.size - (intOf i).toNat)
  case atStart => exact ⟨0, Nat.zero_le _, rfl, show c ∉ s.data.toList.take 0 by simp⟩
  case round =>
    obtain ⟨k, hk, rfl, hn⟩ := hrel
    by_cases hlt : k < s.size
    · have HB := Lib.hid (byte_at hlt)
      by_cases hc : s[k] = c
      · have t1 : ((s[k].toNat : Int) == (c.toNat : Int)) = true := by rw [u8_eq]; simp [hc]
        have HM := Lib.hid (show decide (c ∈ s.data.toList) = true from decide_eq_true (by rw [← hc]; exact List.mem_of_getElem? HB.out))
        clear hc
        go_wp2_with fail
        go_ret
        exact ⟨ret_bool (by rw [← HZ.out, HM.out]), rfl⟩
      · have t1 : ((s[k].toNat : Int) == (c.toNat : Int)) = false := by rw [u8_eq]; simp [hc]
        have HN : Hid (c ∉ s.data.toList.take (k + 1)) := by
          show ¬ _
          rw [List.take_add_one, HB.out]
          intro hm
          rcases List.mem_append.1 hm with h | h
          · exact hn.out h
          · simp at h; exact hc h.symm
        clear hc
        go_wp2_with fail
        go_round
        case rel => exact ⟨k + 1, by omega, by go_num, HN.out⟩
        case measure => simp [intOf]; omega
    · have HM := Lib.hid (show decide (c ∈ s.data.toList) = false from decide_eq_false (by
        have := hn.out
        rwa [List.take_of_length_le (by simp; omega)] at this))
      go_wp2_with fail
      go_ret
      exact ⟨ret_bool (by rw [← HZ.out, HM.out]), rfl⟩

def mayB (l : List UInt8) : Bool := l.all isMay && decide (1 ≤ l.length) && decide (l.length ≤ 60)
set_option maxHeartbeats 1000000 in
set_option maxRecDepth 100000 in
theorem refMay_any (s : ByteArray) (hs : s.size ≤ maxLen) (w : World) :
    Calls Tryd.prog 54 #[.string s] w fun e w' => e = .returned (.bool (mayB s.data.toList)) ∧ w = w' := by
  unfold maxLen at hs
  go_enter Tryd.func54, Tryd.ntmps54
  go_wp2_with fail
  go_loop [3] (fun i => ∃ k : Nat, k ≤ s.size ∧ i = .int .i64 (k : Int) ∧ Hid ((s.data.toList.take k).all isMay = true)) (fun i => s.size - (intOf i).toNat)
  case atStart => exact ⟨0, Nat.zero_le _, rfl, show (s.data.toList.take 0).all isMay = true from rfl⟩
  case round =>
    obtain ⟨k, hk, rfl, hall⟩ := hrel
    by_cases hlt : k < s.size
    · have HB := Lib.hid (byte_at hlt)
      have CL := Lib.hid (refLetter_any s[k])
      have CD := Lib.hid (refDigit_any s[k])
      have CI := Lib.hid (fun w => refIn_any s[k] ⟨#[46, 95, 43, 126, 94, 45, 58]⟩ (by decide) w)
      change Hid (∀ w, Calls Tryd.prog 56 #[.int .u8 (s[k].toNat : Int), .string ⟨#[46, 95, 43, 126, 94, 45, 58]⟩] w fun e w' => e = .returned (.bool (decide (s[k] ∈ ([46, 95, 43, 126, 94, 45, 58] : List UInt8)))) ∧ w = w') at CI
      have HM := Lib.hid (show isMay s[k] = (isDg s[k] || isLt s[k] || decide (s[k] ∈ ([46, 95, 43, 126, 94, 45, 58] : List UInt8))) from rfl)
      have HY := Lib.hid (fun (h : isMay s[k] = true) => all_snoc hall.out HB.out h)
      have HNo : Hid (isMay s[k] = false → mayB s.data.toList = false) := fun h => by
        unfold mayB
        have : s.data.toList.all isMay = false := by
          cases hx : s.data.toList.all isMay with
          | false => rfl
          | true =>
            have := List.all_eq_true.1 hx s[k] (List.mem_of_getElem? HB.out)
            rw [h] at this; cases this
        rw [this]; rfl
      clear hall
      generalize isMay s[k] = m at *
      generalize isDg s[k] = d at *
      generalize isLt s[k] = t at *
      generalize decide (s[k] ∈ ([46, 95, 43, 126, 94, 45, 58] : List UInt8)) = x at *
      cases d <;> cases t <;> cases x
      all_goals
        go_wp2_with fail
        refine (CL.out _).mono ?_
        rintro e w1 ⟨rfl, rfl⟩
        go_wp2_with fail
        refine (CD.out _).mono ?_
        rintro e w1 ⟨rfl, rfl⟩
        go_wp2_with fail
        try
          refine (CI.out _).mono ?_
          rintro e w1 ⟨rfl, rfl⟩
          go_wp2_with fail
        first
        | (go_ret
           exact ⟨ret_bool (by rw [HNo.out (by rw [HM.out]; rfl)]), rfl⟩)
        | (go_round
           case rel => exact ⟨k + 1, by omega, by go_num, HY.out (by rw [HM.out]; rfl)⟩
           case measure => simp [intOf]; omega)
    · have HM : Hid (mayB s.data.toList = (decide (1 ≤ s.size) && decide (s.size ≤ 60))) := by
        show mayB _ = _
        have := hall.out
        rw [List.take_of_length_le (by simp; omega)] at this
        unfold mayB
        rw [this, size_len]; rfl
      go_wp2_with fail
      all_goals
        go_ret
        refine ⟨ret_bool ?_, rfl⟩
        rw [HM.out, Bool.eq_iff_iff]
        simp <;> omega

def digB (l : List UInt8) : Bool := l.all isDg && decide (1 ≤ l.length) && decide (l.length ≤ 9)
set_option maxHeartbeats 1000000 in
set_option maxRecDepth 100000 in
theorem refDigits_any (s : ByteArray) (hs : s.size ≤ maxLen) (w : World) :
    Calls Tryd.prog 55 #[.string s] w fun e w' => e = .returned (.bool (digB s.data.toList)) ∧ w = w' := by
  unfold maxLen at hs
  go_enter Tryd.func55, Tryd.ntmps55
  go_wp2_with fail
  go_loop [3] (fun i => ∃ k : Nat, k ≤ s.size ∧ i = .int .i64 (k : Int) ∧ Hid ((s.data.toList.take k).all isDg = true)) (fun i => s.size - (intOf i).toNat)
  case atStart => exact ⟨0, Nat.zero_le _, rfl, show (s.data.toList.take 0).all isDg = true from rfl⟩
  case round =>
    obtain ⟨k, hk, rfl, hall⟩ := hrel
    by_cases hlt : k < s.size
    · have HB := Lib.hid (byte_at hlt)
      have CD := Lib.hid (refDigit_any s[k])
      have HY := Lib.hid (fun (h : isDg s[k] = true) => all_snoc hall.out HB.out h)
      have HNo : Hid (isDg s[k] = false → digB s.data.toList = false) := fun h => by
        unfold digB
        have : s.data.toList.all isDg = false := by
          cases hx : s.data.toList.all isDg with
          | false => rfl
          | true =>
            have := List.all_eq_true.1 hx s[k] (List.mem_of_getElem? HB.out)
            rw [h] at this; cases this
        rw [this]; rfl
      clear hall
      generalize isDg s[k] = d at *
      cases d
      · have HN2 : Hid (digB s.data.toList = false) := HNo.out rfl
        clear HNo HY
        go_wp2_with fail
        refine (CD.out _).mono ?_
        rintro e w1 ⟨rfl, rfl⟩
        go_wp2_with fail
        go_ret
        exact ⟨ret_bool (by rw [HN2.out]), rfl⟩
      · have HY2 : Hid ((s.data.toList.take (k + 1)).all isDg = true) := HY.out rfl
        clear HY
        go_wp2_with fail
        refine (CD.out _).mono ?_
        rintro e w1 ⟨rfl, rfl⟩
        go_wp2_with fail
        go_round
        case rel => exact ⟨k + 1, by omega, by go_num, HY2.out⟩
        case measure => simp [intOf]; omega
    · have HM : Hid (digB s.data.toList = (decide (1 ≤ s.size) && decide (s.size ≤ 9))) := by
        show digB _ = _
        have := hall.out
        rw [List.take_of_length_le (by simp; omega)] at this
        unfold digB
        rw [this, size_len]; rfl
      go_wp2_with fail
      all_goals
        go_ret
        refine ⟨ret_bool ?_, rfl⟩
        rw [HM.out, Bool.eq_iff_iff]
        simp <;> omega

end Go.Proofs.YtinldjjbfhpnkaaDoor
