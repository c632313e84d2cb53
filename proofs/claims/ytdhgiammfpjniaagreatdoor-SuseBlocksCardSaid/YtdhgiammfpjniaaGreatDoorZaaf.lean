/- The library's words for places of bytes, in the words of lists. A version's parts, as the code takes it apart. -/
import Derived.Test.YtdhgiammfpjniaaGreatDoorZaae
import Derived.Lib.Bytealg
import Derived.Lib.LastIndexByte
import Derived.Lib.TrimByte
import Derived.Lib.Small
/- The library's words for places of bytes, in the words of lists. -/
namespace Go.Proofs.YtdhgiammfpjniaaGreatDoor.Ev
set_option linter.unusedSimpArgs false
set_option linter.unusedVariables false
open Go.Lib

/-! The first such byte. -/
theorem index_no {l : List UInt8} {c : UInt8} (h : c ∉ l) : indexByte l c = -1 := by
  induction l with
  | nil => rfl
  | cons b l ih =>
    simp only [List.mem_cons, not_or] at h
    unfold indexByte
    rw [ih h.2]
    have : (b == c) = false := beq_eq_false_iff_ne.2 fun e => h.1 e.symm
    simp [this]
theorem index_yes {l : List UInt8} {c : UInt8} (h : c ∈ l) : indexByte l c = (l.takeWhile (· != c)).length := by
  induction l with
  | nil => cases h
  | cons b l ih =>
    unfold indexByte
    by_cases hb : b = c
    · subst hb; simp
    · have h2 : c ∈ l := by
        rcases List.mem_cons.1 h with h | h
        · exact absurd h.symm hb
        · exact h
      have hne : (b == c) = false := beq_eq_false_iff_ne.2 hb
      have hn : (b != c) = true := by simp [hb]
      rw [ih h2, hne, List.takeWhile_cons, hn]
      have : ((((l.takeWhile (· != c)).length : Nat) : Int) == -1) = false := by simp
      rw [this]
      simp
theorem take_of_while {p : UInt8 → Bool} (l : List UInt8) : l.takeWhile p = l.take (l.takeWhile p).length := by
  induction l with
  | nil => rfl
  | cons b l ih =>
    rw [List.takeWhile_cons]
    split
    · simp [← ih]
    · simp
theorem drop_of_while {p : UInt8 → Bool} (l : List UInt8) : l.dropWhile p = l.drop (l.takeWhile p).length := by
  induction l with
  | nil => rfl
  | cons b l ih =>
    rw [List.takeWhile_cons, List.dropWhile_cons]
    split
    · simp [← ih]
    · simp
theorem while_lt {l : List UInt8} {c : UInt8} (h : c ∈ l) : (l.takeWhile (· != c)).length < l.length := by
  induction l with
  | nil => cases h
  | cons b l ih =>
    rw [List.takeWhile_cons]
    split
    · rename_i hb
      rcases List.mem_cons.1 h with h | h
      · subst h; simp at hb
      · simp [ih h]
    · simp
theorem while_le {p : UInt8 → Bool} (l : List UInt8) : (l.takeWhile p).length ≤ l.length := (List.takeWhile_prefix p).length_le
/-- A text's cut at the first such byte. -/
theorem cutAt_yes {l : List UInt8} {c : UInt8} (h : c ∈ l) : cutAt c l = some (l.take (l.takeWhile (· != c)).length, l.drop ((l.takeWhile (· != c)).length + 1)) := by
  unfold cutAt
  rw [if_pos h, ← take_of_while, drop_of_while, List.tail_drop]
theorem cutAt_no {l : List UInt8} {c : UInt8} (h : c ∉ l) : cutAt c l = none := by unfold cutAt; rw [if_neg h]
/-- A text's cut is known by where the byte stands. -/
theorem cutAt_at {l : List UInt8} {c : UInt8} {k : Nat} (hk : l[k]? = some c) (hn : ∀ j, j < k → l[j]? ≠ some c) : cutAt c l = some (l.take k, l.drop (k + 1)) := by
  have hm : c ∈ l := List.mem_of_getElem? hk
  rw [cutAt_yes hm]
  have : (l.takeWhile (· != c)).length = k := by
    induction l generalizing k with
    | nil => cases hm
    | cons b l ih =>
      cases k with
      | zero =>
        simp at hk; subst hk
        simp
      | succ k =>
        have hb : b ≠ c := by have := hn 0 (by omega); simpa using this
        have hb' : (b != c) = true := by simp [hb]
        rw [List.takeWhile_cons, hb']
        have hk' : l[k]? = some c := by simpa using hk
        have := ih hk' (fun j hj => by have := hn (j + 1) (by omega); simpa using this) (List.mem_of_getElem? hk')
        simp [this]
  rw [this]
/-- The cut at the last such byte. -/
theorem cutLast_at {l : List UInt8} {c : UInt8} {k : Nat} (hk : l[k]? = some c) (hn : ∀ j, k < j → j < l.length → l[j]? ≠ some c) : cutLast c l = some (l.take k, l.drop (k + 1)) := by
  have hlt : k < l.length := (List.getElem?_eq_some_iff.1 hk).1
  unfold cutLast
  rw [cutAt_at (k := l.length - 1 - k)]
  · simp only [Option.map_some, List.drop_reverse, List.take_reverse, List.reverse_reverse]
    rw [show l.length - (l.length - 1 - k + 1) = k by omega, show l.length - (l.length - 1 - k) = k + 1 by omega]
  · rw [List.getElem?_reverse (by omega), show l.length - 1 - (l.length - 1 - k) = k by omega]; exact hk
  · intro j hj
    rw [List.getElem?_reverse (by omega)]
    exact hn _ (by omega) (by omega)
theorem cutLast_no {l : List UInt8} {c : UInt8} (h : c ∉ l) : cutLast c l = none := by
  unfold cutLast
  rw [cutAt_no (by simpa using h)]
  rfl
/-- The last such byte's place. -/
theorem last_no {s : ByteArray} {c : UInt8} (h : c ∉ s.data.toList) : lastIndexByte s (c.toNat : Int) = -1 := by
  rcases lastIndexByte_spec s (c.toNat : Int) with ⟨e, _⟩ | ⟨i, hi, _, hc, _⟩
  · exact e
  · exfalso
    apply h
    have hi' : i < s.data.size := hi
    have : s.data[i]! = s.data[i] := getElem!_pos s.data i hi'
    rw [this] at hc
    have : s.data[i] = c := UInt8.toNat_inj.1 (by omega)
    rw [← this]
    exact Array.mem_toList_iff.2 (Array.getElem_mem hi')
theorem last_yes {s : ByteArray} {c : UInt8} (h : c ∈ s.data.toList) : ∃ k : Nat, k < s.size ∧ lastIndexByte s (c.toNat : Int) = k ∧ s.data.toList[k]? = some c ∧ ∀ j, k < j → j < s.data.toList.length → s.data.toList[j]? ≠ some c := by
  rcases lastIndexByte_spec s (c.toNat : Int) with ⟨_, hn⟩ | ⟨i, hi, e, hc, hn⟩
  · exfalso
    obtain ⟨i, hi⟩ := List.getElem?_of_mem h
    have hlt := (List.getElem?_eq_some_iff.1 hi).1
    have hi' : i < s.data.size := by simpa using hlt
    apply hn i hi'
    rw [getElem!_pos s.data i hi']
    rw [Array.getElem?_toList, Array.getElem?_eq_getElem hi'] at hi
    injection hi with hi
    rw [hi]
  · refine ⟨i, hi, e, ?_, fun j h1 h2 => ?_⟩
    · have hi' : i < s.data.size := hi
      rw [getElem!_pos s.data i hi'] at hc
      rw [Array.getElem?_toList, Array.getElem?_eq_getElem hi']
      congr 1
      exact UInt8.toNat_inj.1 (by omega)
    · have hj : j < s.data.size := by simpa using h2
      have := hn j h1 hj
      rw [getElem!_pos s.data j hj] at this
      rw [Array.getElem?_toList, Array.getElem?_eq_getElem hj]
      intro h3
      injection h3 with h3
      rw [h3] at this
      exact this rfl
end Go.Proofs.YtdhgiammfpjniaaGreatDoor.Ev

/- A version's parts, as the code takes it apart. -/
namespace Go.Proofs.YtdhgiammfpjniaaGreatDoor.Ev
set_option linter.unusedSimpArgs false
set_option linter.unusedVariables false
open Go.Lib

/-! Taking apart, as the code goes. -/
def mkS (l : List UInt8) : ByteArray := ⟨l.toArray⟩
theorem mkS_of {s : ByteArray} {l : List UInt8} (h : s.data.toList = l) : s = mkS l := by
  subst h; rfl
theorem parse_bad {l : List UInt8} (h : ¬ (l.length ≤ 60 ∧ l.all isMay = true)) : parse l = none := by unfold parse; rw [if_neg h]
theorem parse_plain {l : List UInt8} (h : l.length ≤ 60 ∧ l.all isMay = true) (hc : (58 : UInt8) ∉ l) : parse l = vr [] l := by
  unfold parse; rw [if_pos h, cutAt_no hc]
theorem parse_colon {l : List UInt8} (h : l.length ≤ 60 ∧ l.all isMay = true) (hc : (58 : UInt8) ∈ l) {k : Nat} (hk : k = (l.takeWhile (· != 58)).length) :
    parse l = if k ≠ 0 ∧ k ≤ 9 ∧ (l.take k).all isDg = true then vr (l.take k) (l.drop (k + 1)) else none := by
  have hlt := while_lt hc
  subst hk
  unfold parse
  rw [if_pos h, cutAt_yes hc]
  simp only
  have e1 : (l.take (l.takeWhile (· != 58)).length ≠ []) ↔ (l.takeWhile (· != 58)).length ≠ 0 := by
    rw [← List.length_pos_iff, List.length_take]; omega
  have e2 : (l.take (l.takeWhile (· != 58)).length).length = (l.takeWhile (· != 58)).length := by rw [List.length_take]; omega
  by_cases hx : (l.takeWhile (· != 58)).length ≠ 0 ∧ (l.takeWhile (· != 58)).length ≤ 9 ∧ (l.take (l.takeWhile (· != 58)).length).all isDg = true
  · rw [if_pos hx, if_pos ⟨e1.2 hx.1, by rw [e2]; exact hx.2.1, hx.2.2⟩]
  · rw [if_neg hx, if_neg (fun hy => hx ⟨e1.1 hy.1, by rw [← e2]; exact hy.2.1, hy.2.2⟩)]
theorem vr_colon {e l : List UInt8} (h : (58 : UInt8) ∈ l) : vr e l = none := by unfold vr; rw [if_pos h]
theorem vr_plain {e l : List UInt8} (h : (58 : UInt8) ∉ l) (hd : (45 : UInt8) ∉ l) : vr e l = if l = [] then none else some ⟨e, l, []⟩ := by
  unfold vr; rw [if_neg h, cutLast_no hd]
theorem vr_dash {e l : List UInt8} (h : (58 : UInt8) ∉ l) {k : Nat} (hk : l[k]? = some (45 : UInt8)) (hn : ∀ j, k < j → j < l.length → l[j]? ≠ some (45 : UInt8)) :
    vr e l = if l.take k = [] ∨ l.drop (k + 1) = [] then none else some ⟨e, l.take k, l.drop (k + 1)⟩ := by
  unfold vr; rw [if_neg h, cutLast_at hk hn]
theorem vr_empty {e l : List UInt8} {k : Nat} (hk : l[k]? = some (45 : UInt8)) (hn : ∀ j, k < j → j < l.length → l[j]? ≠ some (45 : UInt8)) (h : l.take k = [] ∨ l.drop (k + 1) = []) : vr e l = none := by
  by_cases hc : (58 : UInt8) ∈ l
  · exact vr_colon hc
  · rw [vr_dash hc hk hn, if_pos h]
theorem all_while {p : UInt8 → Bool} {l : List UInt8} (h : l.all p = true) : (l.takeWhile p).length = l.length := by
  induction l with
  | nil => rfl
  | cons b l ih =>
    simp only [List.all_cons, Bool.and_eq_true] at h
    rw [List.takeWhile_cons, h.1]; simp [ih h.2]
theorem not_all_while {p : UInt8 → Bool} {l : List UInt8} (h : l.all p = false) : (l.takeWhile p).length < l.length := by
  induction l with
  | nil => cases h
  | cons b l ih =>
    rw [List.takeWhile_cons]
    cases hb : p b with
    | false => simp
    | true =>
      simp only [List.all_cons, hb, Bool.true_and] at h
      simp [ih h]
end Go.Proofs.YtdhgiammfpjniaaGreatDoor.Ev
