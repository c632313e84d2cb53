/- The kinds of bytes, how many stand at a text's beginning; what must be. -/
import Derived.Test.YtoifibnmincodaaGreatDoorXm
import Derived.Test.YtoifibnmincodaaGreatDoorShelf
namespace Go.Proofs.YtoifibnmincodaaGreatDoor
set_option linter.unusedSimpArgs false
set_option linter.unusedVariables false
open Go.RowKit

/-- What gives up with an error. -/
def gaveUp (n : Int) : Ending := .panicked [{ v := .iface 24 (.int .i64 n), recovered := false }]
set_option maxRecDepth 100000 in
theorem must_yes (n : Int) (w : World) : Calls Tryz.prog 40 #[.bool true, .int .i64 n] w fun e w' => e = .returned (.tuple #[]) ∧ w = w' := by
  go_enter Tryz.func40, Tryz.ntmps40
  go_wp2_with fail
  go_end0
  exact ⟨rfl, rfl⟩
set_option maxRecDepth 100000 in
theorem must_no (n : Int) (w : World) : Calls Tryz.prog 40 #[.bool false, .int .i64 n] w fun e w' => e = gaveUp n ∧ w = w' := by
  go_enter Tryz.func40, Tryz.ntmps40
  go_wp2_with fail
  exact ⟨rfl, ⟨rfl, rfl⟩⟩
theorem lay_ix : ∀ c : UInt8, decide ((0 : Int) ≤ Lib.indexByte [9, 10, 13, 32] c) = xLay c := by
  have h : ∀ n : Fin 256, decide ((0 : Int) ≤ Lib.indexByte [9, 10, 13, 32] (UInt8.ofNat n.1)) = xLay (UInt8.ofNat n.1) := by decide +kernel
  intro c
  have := h ⟨c.toNat, c.toNat_lt⟩
  simpa using this
set_option maxRecDepth 100000 in
theorem isLayout_any : IsPred 107 xLay := by
  intro c w
  have C := Lib.hid (Tryz.strings_IndexByte ⟨#[9, 10, 13, 32]⟩ (c.toNat : Int) w)
  have h := Lib.hid (lay_ix c)
  have e : ((c.toNat : Int).toNat.toUInt8) = c := by simp
  rw [e] at C
  clear e
  go_enter Tryz.func107, Tryz.ntmps107
  go_wp2_with fail
  refine C.out.mono ?_
  rintro e w' ⟨rfl, rfl⟩
  go_wp2_with fail
  go_ret
  refine ⟨ret_bool ?_, rfl⟩
  rw [← h.out]
theorem mayI (c : UInt8) : xMay c = (decide ((32 : Int) ≤ (c.toNat : Int)) || xLay c) := by
  unfold xMay
  generalize xLay c = d
  rw [Bool.eq_iff_iff]
  cases d <;> simp <;> omega
set_option maxRecDepth 100000 in
theorem mayStand_any : IsPred 139 xMay := by
  intro c w
  have C := Lib.hid (isLayout_any c)
  have h := Lib.hid (mayI c)
  by_cases hc : (32 : Int) ≤ (c.toNat : Int)
  · have hd : decide ((32 : Int) ≤ (c.toNat : Int)) = true := decide_eq_true hc
    go_enter Tryz.func139, Tryz.ntmps139
    go_wp2_with fail
    go_ret
    refine ⟨ret_bool ?_, rfl⟩
    rw [h.out]; simp; omega
  · have hd : decide ((32 : Int) ≤ (c.toNat : Int)) = false := decide_eq_false hc
    go_enter Tryz.func139, Tryz.ntmps139
    go_wp2_with fail
    refine (C.out _).mono ?_
    rintro e w' ⟨rfl, rfl⟩
    go_wp2_with fail
    go_ret
    refine ⟨ret_bool ?_, rfl⟩
    rw [h.out]; simp; omega
theorem firstI (c : UInt8) : xFirst c = (decide ((97 : Int) ≤ (c.toNat : Int)) && decide ((c.toNat : Int) ≤ 122) || decide ((65 : Int) ≤ (c.toNat : Int)) && decide ((c.toNat : Int) ≤ 90) || decide ((c.toNat : Int) = 95)) := by
  unfold xFirst
  rw [Bool.eq_iff_iff]; simp; omega
set_option maxRecDepth 100000 in
theorem isFirst_any : IsPred 99 xFirst := by
  intro c w
  have h := Lib.hid (firstI c)
  go_enter Tryz.func99, Tryz.ntmps99
  go_wp2_with fail
  all_goals
    go_ret
    refine ⟨ret_bool ?_, rfl⟩
    rw [h.out, Bool.eq_iff_iff]
    simp <;> omega
theorem ofI (c : UInt8) : xOf c = (xFirst c || decide ((48 : Int) ≤ (c.toNat : Int)) && decide ((c.toNat : Int) ≤ 57) || decide ((c.toNat : Int) = 46) || decide ((c.toNat : Int) = 58) || decide ((c.toNat : Int) = 45)) := by
  unfold xOf
  generalize xFirst c = d
  rw [Bool.eq_iff_iff]
  cases d <;> simp <;> omega
set_option maxRecDepth 100000 in
theorem isOfName_any : IsPred 101 xOf := by
  intro c w
  have C := Lib.hid (isFirst_any c)
  have h := Lib.hid (ofI c)
  generalize xFirst c = d at *
  cases d
  all_goals
    go_enter Tryz.func101, Tryz.ntmps101
    go_wp2_with fail
    refine (C.out _).mono ?_
    rintro e w' ⟨rfl, rfl⟩
    go_wp2_with fail
  all_goals
    go_ret
    refine ⟨ret_bool ?_, rfl⟩
    rw [h.out, Bool.eq_iff_iff]
    simp <;> omega
set_option maxHeartbeats 400000 in
set_option maxRecDepth 100000 in
theorem span_any {f : FuncId} {p : UInt8 → Bool} (hp : IsPred f p) (ef : ∀ args w, (callFunc f args).run Tryz.prog w = .ok (.enter f args) w) (s : ByteArray) (hs : s.size ≤ maxLen) (w : World) :
    Calls Tryz.prog 100 #[.string s, .func (.func f) #[] #[]] w fun e w' => e = .returned (.int .i64 ((s.data.toList.takeWhile p).length : Nat)) ∧ w = w' := by
  unfold maxLen at hs
  have HP := Lib.hid hp
  clear hp
  go_enter Tryz.func100, Tryz.ntmps100
  go_wp2_with fail
  go_loop [5] (fun n => ∃ k : Nat, k ≤ s.size ∧ n = .int .i64 (k : Int) ∧ Hid ((s.data.toList.take k).all p = true)) (fun n => s.size - (intOf n).toNat)
  case atStart => exact ⟨0, Nat.zero_le _, rfl, show ((s.data.toList.take 0).all p = true) from rfl⟩
  case round =>
    obtain ⟨k, hk, rfl, hall⟩ := hrel
    by_cases hlt : k < s.size
    · have C := Lib.hid (HP.out s[k])
      cases hpk : p s[k] with
      | true =>
        have HN := Lib.hid (all_snoc hall.out (byte_at hlt) hpk)
        rw [hpk] at C
        clear hpk
        go_wp2_with fail
        refine (C.out _).mono ?_
        rintro e w' ⟨rfl, rfl⟩
        go_wp2_with fail
        go_round
        case rel => exact ⟨k + 1, by omega, by go_num, HN.out⟩
        case measure => simp [intOf]; omega
      | false =>
        have HN := Lib.hid (while_is hall.out (by simpa using hk) (fun c hc => by rw [byte_at hlt] at hc; injection hc with hc; rw [← hc]; exact hpk))
        rw [hpk] at C
        clear hpk
        go_wp2_with fail
        refine (C.out _).mono ?_
        rintro e w' ⟨rfl, rfl⟩
        go_wp2_with fail
        go_ret
        rw [← HN.out]
        exact ⟨rfl, rfl⟩
    · have HN := Lib.hid (while_is hall.out (by simpa using hk) (fun c hc => by have := (List.getElem?_eq_some_iff.1 hc).1; simp at this; exact absurd this hlt))
      go_wp2_with fail
      go_ret
      rw [← HN.out]
      exact ⟨rfl, rfl⟩
theorem enter_may : ∀ args w, (callFunc 139 args).run Tryz.prog w = .ok (.enter 139 args) w := enters_of Tryz.func139 (by kernel_rfl) rfl
theorem enter_lay : ∀ args w, (callFunc 107 args).run Tryz.prog w = .ok (.enter 107 args) w := enters_of Tryz.func107 (by kernel_rfl) rfl
theorem enter_of : ∀ args w, (callFunc 101 args).run Tryz.prog w = .ok (.enter 101 args) w := enters_of Tryz.func101 (by kernel_rfl) rfl
theorem span_may (s : ByteArray) (hs : s.size ≤ maxLen) (w : World) : Calls Tryz.prog 100 #[.string s, .func (.func 139) #[] #[]] w fun e w' => e = .returned (.int .i64 ((s.data.toList.takeWhile xMay).length : Nat)) ∧ w = w' := span_any mayStand_any enter_may s hs w
theorem span_lay (s : ByteArray) (hs : s.size ≤ maxLen) (w : World) : Calls Tryz.prog 100 #[.string s, .func (.func 107) #[] #[]] w fun e w' => e = .returned (.int .i64 ((s.data.toList.takeWhile xLay).length : Nat)) ∧ w = w' := span_any isLayout_any enter_lay s hs w
theorem span_of (s : ByteArray) (hs : s.size ≤ maxLen) (w : World) : Calls Tryz.prog 100 #[.string s, .func (.func 101) #[] #[]] w fun e w' => e = .returned (.int .i64 ((s.data.toList.takeWhile xOf).length : Nat)) ∧ w = w' := span_any isOfName_any enter_of s hs w
end Go.Proofs.YtoifibnmincodaaGreatDoor
