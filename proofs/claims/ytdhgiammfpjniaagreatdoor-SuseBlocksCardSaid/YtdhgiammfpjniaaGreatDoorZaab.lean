/- A world in which Go's own table unicode/utf8.first lies, beside the tables that the program's text lays: the witness of these rows. Texts as lists of bytes: small words that every seat's walks use. What the document says of XML's pieces, as functions of lists of bytes. -/
import Derived.Test.YtdhgiammfpjniaaGreatDoorRows
import Derived.LaidMore
import Derived.Test.YtdhgiammfpjniaaGreatDoorZaaa
import Derived.Lib.IndexMore
import Derived.Lib.RuneBytes
import Derived.Lib.Strings
import Derived.Lib.Small
/- A world in which Go's own table unicode/utf8.first lies, beside the tables that the program's text lays: the witness of these rows. -/
namespace Go.Proofs.YtdhgiammfpjniaaGreatDoor
set_option linter.unusedSimpArgs false
set_option linter.unusedVariables false
noncomputable def witW (os : Os) : World :=
  { World.doorLaid Tryz.prog 44 os with heap := (World.doorLaid Tryz.prog 44 os).heap.setIfInBounds 6 (.cells (Go.Pinned.utf8FirstZ.map fun n : Nat => Value.int .u8 (n : Int)).toArray 205 (0, 0)) }
end Go.Proofs.YtdhgiammfpjniaaGreatDoor

/- Texts as lists of bytes: small words that every seat's walks use. -/
namespace Go.Proofs.YtdhgiammfpjniaaGreatDoor
set_option linter.unusedSimpArgs false
set_option linter.unusedVariables false
open Go.RowKit

/-- A function that tells of a byte. -/
def IsPred (f : FuncId) (p : UInt8 → Bool) : Prop := ∀ (c : UInt8) (w : World), Calls Tryz.prog f #[.int .u8 (c.toNat : Int)] w fun e w' => e = .returned (.bool (p c)) ∧ w = w'
def mkS (l : List UInt8) : ByteArray := ⟨l.toArray⟩
theorem mkS_of {s : ByteArray} {l : List UInt8} (h : s.data.toList = l) : s = mkS l := by
  subst h; rfl
theorem mkS_list (l : List UInt8) : (mkS l).data.toList = l := rfl
theorem all_snoc {p : UInt8 → Bool} {l : List UInt8} {k : Nat} {c : UInt8} (h : (l.take k).all p = true) (hc : l[k]? = some c) (hp : p c = true) : (l.take (k + 1)).all p = true := by
  rw [List.take_add_one, hc, List.all_append, h]
  simp [hp]
theorem while_is {p : UInt8 → Bool} {l : List UInt8} {k : Nat} (h : (l.take k).all p = true) (hk : k ≤ l.length) (hc : ∀ c, l[k]? = some c → p c = false) : k = (l.takeWhile p).length := by
  induction l generalizing k with
  | nil => simp at hk; subst hk; rfl
  | cons b l ih =>
    cases k with
    | zero =>
      have := hc b rfl
      simp [this]
    | succ k =>
      simp only [List.take_succ_cons, List.all_cons, Bool.and_eq_true] at h
      rw [List.takeWhile_cons, h.1]
      have := ih h.2 (by simpa using hk) (fun c hcc => hc c (by simpa using hcc))
      simp [← this]
theorem byte_at {s : ByteArray} {k : Nat} (h : k < s.size) : s.data.toList[k]? = some s[k] := by
  have h' : k < s.data.size := h
  rw [Array.getElem?_toList, Array.getElem?_eq_getElem h']
  rfl
theorem list_nil {s : ByteArray} (h : s.size = 0) : s.data.toList = [] := by
  apply List.eq_nil_of_length_eq_zero
  simpa using h
theorem list_cons {s : ByteArray} (h : 0 < s.size) : s.data.toList = s[0] :: s.data.toList.tail := by
  have h0 := byte_at h
  cases hl : s.data.toList with
  | nil => rw [hl] at h0; cases h0
  | cons b r => rw [hl] at h0; simp at h0; rw [← h0]; rfl
theorem size_len (s : ByteArray) : s.data.toList.length = s.size := by simp
theorem empty_of {s : ByteArray} (h : s.size = 0) : s = ⟨#[]⟩ := by
  obtain ⟨⟨l⟩⟩ := s
  have : l = [] := List.eq_nil_of_length_eq_zero h
  rw [this]
theorem toList_cons {s : ByteArray} (h : 0 < s.size) : s.toList.isEmpty = false := by
  rw [ByteArray.toList_eq, list_cons h]; rfl
theorem take_of_while {p : UInt8 → Bool} (l : List UInt8) : l.takeWhile p = l.take (l.takeWhile p).length := by
  induction l with
  | nil => rfl
  | cons b l ih =>
    rw [List.takeWhile_cons]
    split
    · simp [← ih]
    · simp
theorem drop_of_while {p : UInt8 → Bool} (l : List UInt8) : l.dropWhile p = l.drop (l.takeWhile p).length := by
  induction l with
  | nil => rfl
  | cons b l ih =>
    rw [List.takeWhile_cons, List.dropWhile_cons]
    split
    · simp [← ih]
    · simp
theorem while_all {p : UInt8 → Bool} (l : List UInt8) : (l.takeWhile p).all p = true := by
  induction l with
  | nil => rfl
  | cons b l ih =>
    rw [List.takeWhile_cons]
    split
    · rename_i hb; simp only [List.all_cons, hb, ih, Bool.and_self]
    · rfl
theorem while_stop {p : UInt8 → Bool} {l : List UInt8} {b : UInt8} (h : l[(l.takeWhile p).length]? = some b) : p b = false := by
  induction l with
  | nil => cases h
  | cons c l ih =>
    rw [List.takeWhile_cons] at h
    split at h
    · exact ih (by simpa using h)
    · rename_i hc
      simp at h
      subst h
      simpa using hc
theorem while_le {p : UInt8 → Bool} (l : List UInt8) : (l.takeWhile p).length ≤ l.length := (List.takeWhile_prefix p).length_le
theorem bl_from (s : ByteArray) (n : Nat) : (s.extract n s.size).data.toList = s.data.toList.drop n := by
  simp
  rw [List.take_of_length_le]
  simp
theorem bl_upto (s : ByteArray) (n : Nat) : (s.extract 0 n).data.toList = s.data.toList.take n := by
  simp
theorem bl_mid (s : ByteArray) (m n : Nat) : (s.extract m n).data.toList = (s.data.toList.take n).drop m := by
  simp [List.drop_take]
theorem bl_app (a b : ByteArray) : (a ++ b).data.toList = a.data.toList ++ b.data.toList := by simp
theorem u8_eq {a b : UInt8} : ((a.toNat : Int) == (b.toNat : Int)) = decide (a = b) := by
  rw [Bool.eq_iff_iff]
  simp only [beq_iff_eq, decide_eq_true_eq]
  constructor
  · intro h; exact UInt8.toNat_inj.1 (by omega)
  · rintro rfl; rfl
theorem s_ext {a b : ByteArray} (h : a.data.toList = b.data.toList) : a = b := by
  obtain ⟨⟨l⟩⟩ := a
  obtain ⟨⟨m⟩⟩ := b
  have : l = m := h
  rw [this]
theorem str_beq (a b : ByteArray) : (a.toList == b.toList) = decide (a.data.toList = b.data.toList) := by
  rw [ByteArray.toList_eq, ByteArray.toList_eq]
  by_cases h : a.data.toList = b.data.toList
  · rw [h]; simp
  · rw [decide_eq_false h]; simpa using h

end Go.Proofs.YtdhgiammfpjniaaGreatDoor

/- What the document says of XML's pieces, as functions of lists of bytes. -/
namespace Go.Proofs.YtdhgiammfpjniaaGreatDoor
set_option linter.unusedSimpArgs false
set_option linter.unusedVariables false
open Go.RowKit

abbrev Bs := List UInt8
def plainN (stops l : Bs) : Nat := (l.takeWhile fun b => !stops.contains b).length
/-! What is left is no more than there was. -/
end Go.Proofs.YtdhgiammfpjniaaGreatDoor
