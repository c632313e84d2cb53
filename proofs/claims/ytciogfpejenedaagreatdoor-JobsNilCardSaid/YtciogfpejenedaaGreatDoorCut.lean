/- A version's parts, as the code takes it apart. -/
import Derived.Test.YtciogfpejenedaaGreatDoorGlue
namespace Go.Proofs.YtciogfpejenedaaGreatDoor
set_option linter.unusedSimpArgs false
set_option linter.unusedVariables false
open Go.Lib

/-! Taking apart, as the code goes. -/
def mkS (l : List UInt8) : ByteArray := ⟨l.toArray⟩
theorem mkS_of {s : ByteArray} {l : List UInt8} (h : s.data.toList = l) : s = mkS l := by
  subst h; rfl
theorem parse_bad {l : List UInt8} (h : ¬ (l.length ≤ 60 ∧ l.all isMay = true)) : parse l = none := by unfold parse; rw [if_neg h]
theorem parse_plain {l : List UInt8} (h : l.length ≤ 60 ∧ l.all isMay = true) (hc : (58 : UInt8) ∉ l) : parse l = vr [] l := by
  unfold parse; rw [if_pos h, cutAt_no hc]
theorem parse_colon {l : List UInt8} (h : l.length ≤ 60 ∧ l.all isMay = true) (hc : (58 : UInt8) ∈ l) {k : Nat} (hk : k = (l.takeWhile (· != 58)).length) :
    parse l = if k ≠ 0 ∧ k ≤ 9 ∧ (l.take k).all isDg = true then vr (l.take k) (l.drop (k + 1)) else none := by
  have hlt := while_lt hc
  subst hk
  unfold parse
  rw [if_pos h, cutAt_yes hc]
  simp only
  have e1 : (l.take (l.takeWhile (· != 58)).length ≠ []) ↔ (l.takeWhile (· != 58)).length ≠ 0 := by
    rw [← List.length_pos_iff, List.length_take]; omega
  have e2 : (l.take (l.takeWhile (· != 58)).length).length = (l.takeWhile (· != 58)).length := by rw [List.length_take]; omega
  by_cases hx : (l.takeWhile (· != 58)).length ≠ 0 ∧ (l.takeWhile (· != 58)).length ≤ 9 ∧ (l.take (l.takeWhile (· != 58)).length).all isDg = true
  · rw [if_pos hx, if_pos ⟨e1.2 hx.1, by rw [e2]; exact hx.2.1, hx.2.2⟩]
  · rw [if_neg hx, if_neg (fun hy => hx ⟨e1.1 hy.1, by rw [← e2]; exact hy.2.1, hy.2.2⟩)]
theorem vr_colon {e l : List UInt8} (h : (58 : UInt8) ∈ l) : vr e l = none := by unfold vr; rw [if_pos h]
theorem vr_plain {e l : List UInt8} (h : (58 : UInt8) ∉ l) (hd : (45 : UInt8) ∉ l) : vr e l = if l = [] then none else some ⟨e, l, []⟩ := by
  unfold vr; rw [if_neg h, cutLast_no hd]
theorem vr_dash {e l : List UInt8} (h : (58 : UInt8) ∉ l) {k : Nat} (hk : l[k]? = some (45 : UInt8)) (hn : ∀ j, k < j → j < l.length → l[j]? ≠ some (45 : UInt8)) :
    vr e l = if l.take k = [] ∨ l.drop (k + 1) = [] then none else some ⟨e, l.take k, l.drop (k + 1)⟩ := by
  unfold vr; rw [if_neg h, cutLast_at hk hn]
theorem vr_empty {e l : List UInt8} {k : Nat} (hk : l[k]? = some (45 : UInt8)) (hn : ∀ j, k < j → j < l.length → l[j]? ≠ some (45 : UInt8)) (h : l.take k = [] ∨ l.drop (k + 1) = []) : vr e l = none := by
  by_cases hc : (58 : UInt8) ∈ l
  · exact vr_colon hc
  · rw [vr_dash hc hk hn, if_pos h]
theorem all_while {p : UInt8 → Bool} {l : List UInt8} (h : l.all p = true) : (l.takeWhile p).length = l.length := by
  induction l with
  | nil => rfl
  | cons b l ih =>
    simp only [List.all_cons, Bool.and_eq_true] at h
    rw [List.takeWhile_cons, h.1]; simp [ih h.2]
theorem not_all_while {p : UInt8 → Bool} {l : List UInt8} (h : l.all p = false) : (l.takeWhile p).length < l.length := by
  induction l with
  | nil => cases h
  | cons b l ih =>
    rw [List.takeWhile_cons]
    cases hb : p b with
    | false => simp
    | true =>
      simp only [List.all_cons, hb, Bool.true_and] at h
      simp [ih h]
end Go.Proofs.YtciogfpejenedaaGreatDoor
