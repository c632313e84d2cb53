/- The kinds of bytes, and how many stand at a text's beginning. -/
import Derived.Test.YtciogfpejenedaaGreatDoorUp
import Derived.Test.YtciogfpejenedaaGreatDoorGlue
namespace Go.Proofs.YtciogfpejenedaaGreatDoor
set_option linter.unusedSimpArgs false
set_option linter.unusedVariables false
open Go.RowKit

/-- A function that tells of a byte. -/
def IsPred (f : FuncId) (p : UInt8 → Bool) : Prop := ∀ (c : UInt8) (w : World), Calls Tryz.prog f #[.int .u8 (c.toNat : Int)] w fun e w' => e = .returned (.bool (p c)) ∧ w = w'

theorem dgI (c : UInt8) : isDg c = (decide ((48 : Int) ≤ (c.toNat : Int)) && decide ((c.toNat : Int) ≤ 57)) := by
  unfold isDg
  rw [Bool.eq_iff_iff]; simp; omega
theorem ltI (c : UInt8) : isLt c = (decide ((97 : Int) ≤ (c.toNat : Int)) && decide ((c.toNat : Int) ≤ 122) || decide ((65 : Int) ≤ (c.toNat : Int)) && decide ((c.toNat : Int) ≤ 90)) := by
  unfold isLt
  rw [Bool.eq_iff_iff]; simp; omega

set_option maxRecDepth 100000 in
theorem isDigit_any : IsPred 125 isDg := by
  intro c w
  have h := Lib.hid (dgI c)
  go_enter Tryz.func125, Tryz.ntmps125
  go_wp2_with fail
  all_goals
    go_ret
    refine ⟨ret_bool ?_, rfl⟩
    rw [h.out, Bool.eq_iff_iff]
    simp <;> omega
set_option maxRecDepth 100000 in
theorem isLetter_any : IsPred 132 isLt := by
  intro c w
  have h := Lib.hid (ltI c)
  go_enter Tryz.func132, Tryz.ntmps132
  go_wp2_with fail
  all_goals
    go_ret
    refine ⟨ret_bool ?_, rfl⟩
    rw [h.out, Bool.eq_iff_iff]
    simp <;> omega
theorem idI (c : UInt8) : isIdle c = (!isDg c && !isLt c && !((c.toNat : Int) == 126) && !((c.toNat : Int) == 94)) := by
  unfold isIdle
  cases isDg c <;> cases isLt c <;> first | rfl | (rw [Bool.eq_iff_iff]; simp; omega)
theorem all_snoc {p : UInt8 → Bool} {l : List UInt8} {k : Nat} {c : UInt8} (h : (l.take k).all p = true) (hc : l[k]? = some c) (hp : p c = true) : (l.take (k + 1)).all p = true := by
  rw [List.take_add_one, hc, List.all_append, h]
  simp [hp]
theorem while_is {p : UInt8 → Bool} {l : List UInt8} {k : Nat} (h : (l.take k).all p = true) (hk : k ≤ l.length) (hc : ∀ c, l[k]? = some c → p c = false) : k = (l.takeWhile p).length := by
  induction l generalizing k with
  | nil => simp at hk; subst hk; rfl
  | cons b l ih =>
    cases k with
    | zero =>
      have := hc b rfl
      simp [this]
    | succ k =>
      simp only [List.take_succ_cons, List.all_cons, Bool.and_eq_true] at h
      rw [List.takeWhile_cons, h.1]
      have := ih h.2 (by simpa using hk) (fun c hcc => hc c (by simpa using hcc))
      simp [← this]
theorem byte_at {s : ByteArray} {k : Nat} (h : k < s.size) : s.data.toList[k]? = some s[k] := by
  have h' : k < s.data.size := h
  rw [Array.getElem?_toList, Array.getElem?_eq_getElem h']
  rfl
set_option maxHeartbeats 400000 in
set_option maxRecDepth 100000 in
theorem run_any {f : FuncId} {p : UInt8 → Bool} (hp : IsPred f p) (ef : ∀ args w, (callFunc f args).run Tryz.prog w = .ok (.enter f args) w) (s : ByteArray) (hs : s.size ≤ maxLen) (w : World) :
    Calls Tryz.prog 122 #[.string s, .func (.func f) #[] #[]] w fun e w' => e = .returned (.int .i64 ((s.data.toList.takeWhile p).length : Nat)) ∧ w = w' := by
  unfold maxLen at hs
  have HP := Lib.hid hp
  clear hp
  go_enter Tryz.func122, Tryz.ntmps122
  go_wp2_with fail
  go_loop [5] (fun n => ∃ k : Nat, k ≤ s.size ∧ n = .int .i64 (k : Int) ∧ Hid ((s.data.toList.take k).all p = true)) (fun n => s.size - (intOf n).toNat)
  case atStart => exact ⟨0, Nat.zero_le _, rfl, show ((s.data.toList.take 0).all p = true) from rfl⟩
  case round =>
    obtain ⟨k, hk, rfl, hall⟩ := hrel
    by_cases hlt : k < s.size
    · have C := Lib.hid (HP.out s[k])
      cases hpk : p s[k] with
      | true =>
        have HN := Lib.hid (all_snoc hall.out (byte_at hlt) hpk)
        rw [hpk] at C
        clear hpk
        go_wp2_with fail
        refine (C.out _).mono ?_
        rintro e w' ⟨rfl, rfl⟩
        go_wp2_with fail
        go_round
        case rel => exact ⟨k + 1, by omega, by go_num, HN.out⟩
        case measure => simp [intOf]; omega
      | false =>
        have HN := Lib.hid (while_is hall.out (by simpa using hk) (fun c hc => by rw [byte_at hlt] at hc; injection hc with hc; rw [← hc]; exact hpk))
        rw [hpk] at C
        clear hpk
        go_wp2_with fail
        refine (C.out _).mono ?_
        rintro e w' ⟨rfl, rfl⟩
        go_wp2_with fail
        go_ret
        rw [← HN.out]
        exact ⟨rfl, rfl⟩
    · have HN := Lib.hid (while_is hall.out (by simpa using hk) (fun c hc => by have := (List.getElem?_eq_some_iff.1 hc).1; simp at this; exact absurd this hlt))
      go_wp2_with fail
      go_ret
      rw [← HN.out]
      exact ⟨rfl, rfl⟩
end Go.Proofs.YtciogfpejenedaaGreatDoor
