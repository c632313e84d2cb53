/- Comparisons of versions as plain functions of lists of bytes, and that they are orders. The library's words for places of bytes, in the words of lists. A version's parts, as the code takes it apart. Dependencies as_ trees: which may be, their texts, their words. Nothing of the program. Words, and how they are read as_ a dependency: word by word with a stack, as_ the code goes; one within the other, as_ the document's answer goes. What is written is read: words of a text, reading of words, and back. The words of what is printed; the document's reading of words, one within the other. The document's reading of a dependency's words is that dependency; both readings of any text come out the same. How a dependency lies in memory. The kinds of bytes, and how many stand at a text's beginning. Pieces of texts. The contracts of the library's functions on texts: they stand in the shelf's text. (nothing but what stands below it) Which bytes a version may have. A version taken apart: split. A version taken apart: split, where its bytes may be. -/
import Derived.Lib.Bytealg
import Derived.Lib.LastIndexByte
import Derived.Lib.TrimByte
import Derived.Lib.Small
import Derived.Test.YtljldbdjkjllhaaGreatDoorWab
import Derived.Shelf.Abstract
import Derived.Test.YtljldbdjkjllhaaGreatDoorWaa
/- Comparisons of versions as plain functions of lists of bytes, and that they are orders. -/
namespace Go.Proofs.YtljldbdjkjllhaaGreatDoor.Ev
set_option linter.unusedSimpArgs false
set_option linter.unusedVariables false

/-- The first that is not nought. -/
def thenC (x y : Int) : Int := if x = 0 then y else x
section
variable {α β : Type} {c d : α → α → Int}
end
/-! Bytes. -/
def isDg (c : UInt8) : Bool := decide (48 ≤ c.toNat) && decide (c.toNat ≤ 57)
def isLt (c : UInt8) : Bool := decide (97 ≤ c.toNat) && decide (c.toNat ≤ 122) || decide (65 ≤ c.toNat) && decide (c.toNat ≤ 90)
def isMay (c : UInt8) : Bool := isDg c || isLt c || decide (c ∈ [46, 95, 43, 126, 94, 45, 58])

/-! Going through two texts part by part. -/
section
variable (T : List UInt8 → List UInt8 → Int) (R : List UInt8 → List UInt8)
def through : Nat → List UInt8 → List UInt8 → Int
  | 0, _, _ => 0
  | n + 1, a, b => thenC (T a b) (through n (R a) (R b))
variable {T R}
end

/-! Rpm's texts. -/
/-! Debian's texts. -/
/-! Versions. -/
structure Parts where
  e : List UInt8
  v : List UInt8
  r : List UInt8
/-! Taking apart. -/
/-- What stands ahead of the first such byte, and behind it. -/
def cutAt (c : UInt8) (l : List UInt8) : Option (List UInt8 × List UInt8) := if c ∈ l then some (l.takeWhile (· != c), (l.dropWhile (· != c)).tail) else none
/-- What stands ahead of the last such byte, and behind it. -/
def cutLast (c : UInt8) (l : List UInt8) : Option (List UInt8 × List UInt8) := (cutAt c l.reverse).map fun p => (p.2.reverse, p.1.reverse)
def vr (e l : List UInt8) : Option Parts :=
  if 58 ∈ l then none else
  match cutLast 45 l with
  | some (v, r) => if v = [] ∨ r = [] then none else some ⟨e, v, r⟩
  | none => if l = [] then none else some ⟨e, l, []⟩
def parse (l : List UInt8) : Option Parts :=
  if l.length ≤ 60 ∧ l.all isMay = true then
    match cutAt 58 l with
    | some (e, t) => if e ≠ [] ∧ e.length ≤ 9 ∧ e.all isDg = true then vr e t else none
    | none => vr [] l
  else none
end Go.Proofs.YtljldbdjkjllhaaGreatDoor.Ev

/- The library's words for places of bytes, in the words of lists. -/
namespace Go.Proofs.YtljldbdjkjllhaaGreatDoor.Ev
set_option linter.unusedSimpArgs false
set_option linter.unusedVariables false
open Go.Lib

/-! The first such byte. -/
theorem index_no {l : List UInt8} {c : UInt8} (h : c ∉ l) : indexByte l c = -1 := by
  induction l with
  | nil => rfl
  | cons b l ih =>
    simp only [List.mem_cons, not_or] at h
    unfold indexByte
    rw [ih h.2]
    have : (b == c) = false := beq_eq_false_iff_ne.2 fun e => h.1 e.symm
    simp [this]
theorem index_yes {l : List UInt8} {c : UInt8} (h : c ∈ l) : indexByte l c = (l.takeWhile (· != c)).length := by
  induction l with
  | nil => cases h
  | cons b l ih =>
    unfold indexByte
    by_cases hb : b = c
    · subst hb; simp
    · have h2 : c ∈ l := by
        rcases List.mem_cons.1 h with h | h
        · exact absurd h.symm hb
        · exact h
      have hne : (b == c) = false := beq_eq_false_iff_ne.2 hb
      have hn : (b != c) = true := by simp [hb]
      rw [ih h2, hne, List.takeWhile_cons, hn]
      have : ((((l.takeWhile (· != c)).length : Nat) : Int) == -1) = false := by simp
      rw [this]
      simp
theorem take_of_while {p : UInt8 → Bool} (l : List UInt8) : l.takeWhile p = l.take (l.takeWhile p).length := by
  induction l with
  | nil => rfl
  | cons b l ih =>
    rw [List.takeWhile_cons]
    split
    · simp [← ih]
    · simp
theorem drop_of_while {p : UInt8 → Bool} (l : List UInt8) : l.dropWhile p = l.drop (l.takeWhile p).length := by
  induction l with
  | nil => rfl
  | cons b l ih =>
    rw [List.takeWhile_cons, List.dropWhile_cons]
    split
    · simp [← ih]
    · simp
theorem while_lt {l : List UInt8} {c : UInt8} (h : c ∈ l) : (l.takeWhile (· != c)).length < l.length := by
  induction l with
  | nil => cases h
  | cons b l ih =>
    rw [List.takeWhile_cons]
    split
    · rename_i hb
      rcases List.mem_cons.1 h with h | h
      · subst h; simp at hb
      · simp [ih h]
    · simp
theorem while_le {p : UInt8 → Bool} (l : List UInt8) : (l.takeWhile p).length ≤ l.length := (List.takeWhile_prefix p).length_le
/-- A text's cut at the first such byte. -/
theorem cutAt_yes {l : List UInt8} {c : UInt8} (h : c ∈ l) : cutAt c l = some (l.take (l.takeWhile (· != c)).length, l.drop ((l.takeWhile (· != c)).length + 1)) := by
  unfold cutAt
  rw [if_pos h, ← take_of_while, drop_of_while, List.tail_drop]
theorem cutAt_no {l : List UInt8} {c : UInt8} (h : c ∉ l) : cutAt c l = none := by unfold cutAt; rw [if_neg h]
/-- A text's cut is known by where the byte stands. -/
theorem cutAt_at {l : List UInt8} {c : UInt8} {k : Nat} (hk : l[k]? = some c) (hn : ∀ j, j < k → l[j]? ≠ some c) : cutAt c l = some (l.take k, l.drop (k + 1)) := by
  have hm : c ∈ l := List.mem_of_getElem? hk
  rw [cutAt_yes hm]
  have : (l.takeWhile (· != c)).length = k := by
    induction l generalizing k with
    | nil => cases hm
    | cons b l ih =>
      cases k with
      | zero =>
        simp at hk; subst hk
        simp
      | succ k =>
        have hb : b ≠ c := by have := hn 0 (by omega); simpa using this
        have hb' : (b != c) = true := by simp [hb]
        rw [List.takeWhile_cons, hb']
        have hk' : l[k]? = some c := by simpa using hk
        have := ih hk' (fun j hj => by have := hn (j + 1) (by omega); simpa using this) (List.mem_of_getElem? hk')
        simp [this]
  rw [this]
/-- The cut at the last such byte. -/
theorem cutLast_at {l : List UInt8} {c : UInt8} {k : Nat} (hk : l[k]? = some c) (hn : ∀ j, k < j → j < l.length → l[j]? ≠ some c) : cutLast c l = some (l.take k, l.drop (k + 1)) := by
  have hlt : k < l.length := (List.getElem?_eq_some_iff.1 hk).1
  unfold cutLast
  rw [cutAt_at (k := l.length - 1 - k)]
  · simp only [Option.map_some, List.drop_reverse, List.take_reverse, List.reverse_reverse]
    rw [show l.length - (l.length - 1 - k + 1) = k by omega, show l.length - (l.length - 1 - k) = k + 1 by omega]
  · rw [List.getElem?_reverse (by omega), show l.length - 1 - (l.length - 1 - k) = k by omega]; exact hk
  · intro j hj
    rw [List.getElem?_reverse (by omega)]
    exact hn _ (by omega) (by omega)
theorem cutLast_no {l : List UInt8} {c : UInt8} (h : c ∉ l) : cutLast c l = none := by
  unfold cutLast
  rw [cutAt_no (by simpa using h)]
  rfl
/-- The last such byte's place. -/
theorem last_no {s : ByteArray} {c : UInt8} (h : c ∉ s.data.toList) : lastIndexByte s (c.toNat : Int) = -1 := by
  rcases lastIndexByte_spec s (c.toNat : Int) with ⟨e, _⟩ | ⟨i, hi, _, hc, _⟩
  · exact e
  · exfalso
    apply h
    have hi' : i < s.data.size := hi
    have : s.data[i]! = s.data[i] := getElem!_pos s.data i hi'
    rw [this] at hc
    have : s.data[i] = c := UInt8.toNat_inj.1 (by omega)
    rw [← this]
    exact Array.mem_toList_iff.2 (Array.getElem_mem hi')
theorem last_yes {s : ByteArray} {c : UInt8} (h : c ∈ s.data.toList) : ∃ k : Nat, k < s.size ∧ lastIndexByte s (c.toNat : Int) = k ∧ s.data.toList[k]? = some c ∧ ∀ j, k < j → j < s.data.toList.length → s.data.toList[j]? ≠ some c := by
  rcases lastIndexByte_spec s (c.toNat : Int) with ⟨_, hn⟩ | ⟨i, hi, e, hc, hn⟩
  · exfalso
    obtain ⟨i, hi⟩ := List.getElem?_of_mem h
    have hlt := (List.getElem?_eq_some_iff.1 hi).1
    have hi' : i < s.data.size := by simpa using hlt
    apply hn i hi'
    rw [getElem!_pos s.data i hi']
    rw [Array.getElem?_toList, Array.getElem?_eq_getElem hi'] at hi
    injection hi with hi
    rw [hi]
  · refine ⟨i, hi, e, ?_, fun j h1 h2 => ?_⟩
    · have hi' : i < s.data.size := hi
      rw [getElem!_pos s.data i hi'] at hc
      rw [Array.getElem?_toList, Array.getElem?_eq_getElem hi']
      congr 1
      exact UInt8.toNat_inj.1 (by omega)
    · have hj : j < s.data.size := by simpa using h2
      have := hn j h1 hj
      rw [getElem!_pos s.data j hj] at this
      rw [Array.getElem?_toList, Array.getElem?_eq_getElem hj]
      intro h3
      injection h3 with h3
      rw [h3] at this
      exact this rfl
end Go.Proofs.YtljldbdjkjllhaaGreatDoor.Ev

/- A version's parts, as the code takes it apart. -/
namespace Go.Proofs.YtljldbdjkjllhaaGreatDoor.Ev
set_option linter.unusedSimpArgs false
set_option linter.unusedVariables false
open Go.Lib

/-! Taking apart, as the code goes. -/
def mkS (l : List UInt8) : ByteArray := ⟨l.toArray⟩
theorem parse_bad {l : List UInt8} (h : ¬ (l.length ≤ 60 ∧ l.all isMay = true)) : parse l = none := by unfold parse; rw [if_neg h]
theorem parse_plain {l : List UInt8} (h : l.length ≤ 60 ∧ l.all isMay = true) (hc : (58 : UInt8) ∉ l) : parse l = vr [] l := by
  unfold parse; rw [if_pos h, cutAt_no hc]
theorem parse_colon {l : List UInt8} (h : l.length ≤ 60 ∧ l.all isMay = true) (hc : (58 : UInt8) ∈ l) {k : Nat} (hk : k = (l.takeWhile (· != 58)).length) :
    parse l = if k ≠ 0 ∧ k ≤ 9 ∧ (l.take k).all isDg = true then vr (l.take k) (l.drop (k + 1)) else none := by
  have hlt := while_lt hc
  subst hk
  unfold parse
  rw [if_pos h, cutAt_yes hc]
  simp only
  have e1 : (l.take (l.takeWhile (· != 58)).length ≠ []) ↔ (l.takeWhile (· != 58)).length ≠ 0 := by
    rw [← List.length_pos_iff, List.length_take]; omega
  have e2 : (l.take (l.takeWhile (· != 58)).length).length = (l.takeWhile (· != 58)).length := by rw [List.length_take]; omega
  by_cases hx : (l.takeWhile (· != 58)).length ≠ 0 ∧ (l.takeWhile (· != 58)).length ≤ 9 ∧ (l.take (l.takeWhile (· != 58)).length).all isDg = true
  · rw [if_pos hx, if_pos ⟨e1.2 hx.1, by rw [e2]; exact hx.2.1, hx.2.2⟩]
  · rw [if_neg hx, if_neg (fun hy => hx ⟨e1.1 hy.1, by rw [← e2]; exact hy.2.1, hy.2.2⟩)]
theorem vr_colon {e l : List UInt8} (h : (58 : UInt8) ∈ l) : vr e l = none := by unfold vr; rw [if_pos h]
theorem vr_plain {e l : List UInt8} (h : (58 : UInt8) ∉ l) (hd : (45 : UInt8) ∉ l) : vr e l = if l = [] then none else some ⟨e, l, []⟩ := by
  unfold vr; rw [if_neg h, cutLast_no hd]
theorem vr_dash {e l : List UInt8} (h : (58 : UInt8) ∉ l) {k : Nat} (hk : l[k]? = some (45 : UInt8)) (hn : ∀ j, k < j → j < l.length → l[j]? ≠ some (45 : UInt8)) :
    vr e l = if l.take k = [] ∨ l.drop (k + 1) = [] then none else some ⟨e, l.take k, l.drop (k + 1)⟩ := by
  unfold vr; rw [if_neg h, cutLast_at hk hn]
theorem vr_empty {e l : List UInt8} {k : Nat} (hk : l[k]? = some (45 : UInt8)) (hn : ∀ j, k < j → j < l.length → l[j]? ≠ some (45 : UInt8)) (h : l.take k = [] ∨ l.drop (k + 1) = []) : vr e l = none := by
  by_cases hc : (58 : UInt8) ∈ l
  · exact vr_colon hc
  · rw [vr_dash hc hk hn, if_pos h]
theorem all_while {p : UInt8 → Bool} {l : List UInt8} (h : l.all p = true) : (l.takeWhile p).length = l.length := by
  induction l with
  | nil => rfl
  | cons b l ih =>
    simp only [List.all_cons, Bool.and_eq_true] at h
    rw [List.takeWhile_cons, h.1]; simp [ih h.2]
theorem not_all_while {p : UInt8 → Bool} {l : List UInt8} (h : l.all p = false) : (l.takeWhile p).length < l.length := by
  induction l with
  | nil => cases h
  | cons b l ih =>
    rw [List.takeWhile_cons]
    cases hb : p b with
    | false => simp
    | true =>
      simp only [List.all_cons, hb, Bool.true_and] at h
      simp [ih h]
end Go.Proofs.YtljldbdjkjllhaaGreatDoor.Ev

/- Dependencies as_ trees: which may be, their texts, their words. Nothing of the program. Words, and how they are read as_ a dependency: word by word with a stack, as_ the code goes; one within the other, as_ the document's answer goes. What is written is read: words of a text, reading of words, and back. The words of what is printed; the document's reading of words, one within the other. The document's reading of a dependency's words is that dependency; both readings of any text come out the same. -/
namespace Go.Proofs.YtljldbdjkjllhaaGreatDoor.Ev
set_option linter.unusedSimpArgs false
set_option linter.unusedVariables false

inductive Dep where
  | mk (kind : Int) (name : ByteArray) (op : Int) (evr : ByteArray) (args : List Dep) : Dep
namespace Dep
def kind : Dep → Int | .mk k _ _ _ _ => k
def name : Dep → ByteArray | .mk _ n _ _ _ => n
def op : Dep → Int | .mk _ _ o _ _ => o
def evr : Dep → ByteArray | .mk _ _ _ e _ => e
def args : Dep → List Dep | .mk _ _ _ _ a => a
/-- What holds of a dependency if it holds of its arguments. -/
theorem ind {P : Dep → Prop} (h : ∀ k n o e as_, (∀ a ∈ as_, P a) → P (.mk k n o e as_)) : ∀ d, P d := by
  intro d
  refine Dep.rec (motive_1 := P) (motive_2 := fun as_ => ∀ a ∈ as_, P a) (fun k n o e as_ ih => h k n o e as_ ih) (fun a ha => by cases ha) (fun a as_ h1 h2 x hx => ?_) d
  rcases List.mem_cons.1 hx with rfl | hx
  · exact h1
  · exact h2 x hx
end Dep

abbrev Wd := List UInt8
def wAnd : Wd := [97, 110, 100]
def wOr : Wd := [111, 114]
def wIf : Wd := [105, 102]
def wElse : Wd := [101, 108, 115, 101]
def wWith : Wd := [119, 105, 116, 104]
def wWithout : Wd := [119, 105, 116, 104, 111, 117, 116]
/-- Which kind's word it is; which comparison's sign. -/
def numW (w : Wd) : Int := if w = wAnd then 2 else if w = wOr then 3 else if w = wIf then 4 else if w = wWith then 5 else if w = wWithout then 6 else 0
def numS (w : Wd) : Int := if w = [60] then 1 else if w = [61] then 2 else if w = [60, 61] then 3 else if w = [62] then 4 else if w = [60, 62] then 5 else if w = [62, 61] then 6 else if w = [60, 61, 62] then 7 else 0
def wordT (k : Int) : Wd := if k = 2 then wAnd else if k = 3 then wOr else if k = 4 then wIf else if k = 5 then wWith else if k = 6 then wWithout else []
def signT (o : Int) : Wd := if o = 1 then [60] else if o = 2 then [61] else if o = 3 then [60, 61] else if o = 4 then [62] else if o = 5 then [60, 62] else if o = 6 then [62, 61] else if o = 7 then [60, 61, 62] else []
def btw (k : Int) (n : Nat) : Wd := if k = 4 ∧ n = 2 then wElse else wordT k

/-- The parentheses of a name, and its bytes. -/
def scan : Nat → Wd → Bool
  | o, [] => o == 0
  | o, c :: r => if c < 33 ∨ 126 < c then false else if c = 40 then scan (o + 1) r else if c = 41 then (if o = 0 then false else scan (o - 1) r) else scan o r
def nameB (l : Wd) : Bool := decide (1 ≤ l.length) && decide (l.length ≤ 60) && decide (l.head? ≠ some 40) && decide (l ≠ wElse) && decide (numW l = 0) && decide (numS l = 0) && scan 0 l
def evrB (l : Wd) : Bool := (parse l).isSome
def mayCmp (op : Int) (l : Wd) : Bool := if op = 0 then decide (l = []) else decide (0 ≤ op) && decide (op < 8) && evrB l
def single (d : Dep) : Bool := decide (d.kind = 1) || decide (d.kind = 5) || decide (d.kind = 6)
def numArgs (k : Int) (as_ : List Dep) : Bool :=
  if k = 2 ∨ k = 3 then decide (2 ≤ as_.length) else if k = 4 then decide (as_.length = 2) || decide (as_.length = 3)
  else if k = 5 then decide (2 ≤ as_.length) && as_.all single else if k = 6 then decide (as_.length = 2) && as_.all single else false
def mayPart (d : Dep) : Bool :=
  if d.kind = 1 then nameB d.name.data.toList && mayCmp d.op d.evr.data.toList && decide (d.args.length = 0)
  else decide (d.name.data.toList = []) && decide (d.op = 0) && decide (d.evr.data.toList = []) && numArgs d.kind d.args

mutual
def form : Dep → Bool
  | .mk k n o e as_ => mayPart (.mk k n o e as_) && forms as_
def forms : List Dep → Bool
  | [] => true
  | a :: r => form a && forms r
end
mutual
def leaves : Dep → Nat
  | .mk k _ _ _ as_ => if k = 1 then 1 else leavesA as_
def leavesA : List Dep → Nat
  | [] => 0
  | a :: r => leaves a + leavesA r
end
mutual
def nodes : Dep → Nat
  | .mk _ _ _ _ as_ => 1 + nodesA as_
def nodesA : List Dep → Nat
  | [] => 0
  | a :: r => nodes a + nodesA r
end
mutual
def depth : Dep → Nat
  | .mk k _ _ _ as_ => if k = 1 then 0 else 1 + depthA as_
def depthA : List Dep → Nat
  | [] => 0
  | a :: r => max (depth a) (depthA r)
end
mutual
def namesOf : Dep → List ByteArray
  | .mk k n _ _ as_ => (if k = 1 then [n] else []) ++ namesA as_
def namesA : List Dep → List ByteArray
  | [] => []
  | a :: r => namesOf a ++ namesA r
end
mutual
def text : Dep → Wd
  | .mk k n o e as_ => if k = 1 then n.data.toList ++ (if o = 0 then [] else 32 :: signT o ++ 32 :: e.data.toList) else 40 :: texts k 0 as_ ++ [41]
def texts (k : Int) : Nat → List Dep → Wd
  | _, [] => []
  | i, a :: r => (if i = 0 then [] else 32 :: btw k i ++ [32]) ++ text a ++ texts k (i + 1) r
end
mutual
def toks : Dep → List Wd
  | .mk k n o e as_ => if k = 1 then n.data.toList :: (if o = 0 then [] else [signT o, e.data.toList]) else [40] :: toksA k 0 as_ ++ [[41]]
def toksA (k : Int) : Nat → List Dep → List Wd
  | _, [] => []
  | i, a :: r => (if i = 0 then [] else [btw k i]) ++ toks a ++ toksA k (i + 1) r
end
def checkN (d : Dep) : Int := if form d = true then (if 16 < leaves d then 51 else 0) else 50

theorem forms_mem {as_ : List Dep} (h : forms as_ = true) : ∀ a ∈ as_, form a = true := by
  induction as_ with
  | nil => intro a ha; cases ha
  | cons b r ih =>
    simp only [forms, Bool.and_eq_true] at h
    intro a ha
    rcases List.mem_cons.1 ha with rfl | ha
    · exact h.1
    · exact ih h.2 a ha
theorem forms_of {as_ : List Dep} (h : ∀ a ∈ as_, form a = true) : forms as_ = true := by
  induction as_ with
  | nil => rfl
  | cons b r ih =>
    simp only [forms, Bool.and_eq_true]
    exact ⟨h b (by simp), ih fun a ha => h a (by simp [ha])⟩
theorem form_may {d : Dep} (h : form d = true) : mayPart d = true := by
  obtain ⟨k, n, o, e, as_⟩ := d
  simp only [form, Bool.and_eq_true] at h
  exact h.1
theorem form_args {d : Dep} (h : form d = true) : forms d.args = true := by
  obtain ⟨k, n, o, e, as_⟩ := d
  simp only [form, Bool.and_eq_true] at h
  exact h.2

/-- What a dependency that may be is made of. -/
theorem may_leaf {k o : Int} {n e : ByteArray} {as_ : List Dep} (h : mayPart (.mk k n o e as_) = true) (hk : k = 1) : nameB n.data.toList = true ∧ mayCmp o e.data.toList = true ∧ as_ = [] := by
  unfold mayPart at h
  rw [if_pos (show (Dep.mk k n o e as_).kind = 1 from hk)] at h
  simp only [Dep.kind, Dep.name, Dep.op, Dep.evr, Dep.args, Bool.and_eq_true] at h
  exact ⟨h.1.1, h.1.2, List.eq_nil_of_length_eq_zero (of_decide_eq_true h.2)⟩
theorem may_node {k o : Int} {n e : ByteArray} {as_ : List Dep} (h : mayPart (.mk k n o e as_) = true) (hk : k ≠ 1) : n.data.toList = [] ∧ o = 0 ∧ e.data.toList = [] ∧ numArgs k as_ = true := by
  unfold mayPart at h
  rw [if_neg (show ¬ (Dep.mk k n o e as_).kind = 1 from hk)] at h
  simp only [Dep.kind, Dep.name, Dep.op, Dep.evr, Dep.args, Bool.and_eq_true] at h
  exact ⟨of_decide_eq_true h.1.1.1, of_decide_eq_true h.1.1.2, of_decide_eq_true h.1.2, h.2⟩
theorem args_kind {k : Int} {as_ : List Dep} (h : numArgs k as_ = true) : 2 ≤ k ∧ k ≤ 6 ∧ 2 ≤ as_.length ∧ (k = 4 → as_.length ≤ 3) ∧ (k = 6 → as_.length = 2) := by
  unfold numArgs at h
  split at h
  · rename_i hk; simp at h; omega
  · split at h
    · simp at h; omega
    · split at h
      · simp at h; omega
      · split at h
        · simp at h; omega
        · cases h

theorem nodes_pos (d : Dep) : 1 ≤ nodes d := by cases d; simp only [nodes]; omega
theorem nodes_leaves (d : Dep) : form d = true → nodes d + 1 ≤ 2 * leaves d := by
  induction d using Dep.ind with
  | h k n o e as_ ih =>
    intro hf
    have hm := form_may hf
    have ha := form_args hf
    simp only [Dep.args] at ha
    simp only [nodes, leaves]
    by_cases hk : k = 1
    · obtain ⟨_, _, rfl⟩ := may_leaf hm hk
      simp [hk, nodesA]
    · rw [if_neg hk]
      have h2 := (args_kind (may_node hm hk).2.2.2).2.2.1
      have : ∀ bs : List Dep, (∀ b ∈ bs, nodes b + 1 ≤ 2 * leaves b) → nodesA bs + bs.length ≤ 2 * leavesA bs := by
        intro bs
        induction bs with
        | nil => intro _; simp [nodesA, leavesA]
        | cons b r ihr =>
          intro hb
          have h1 := hb b (by simp)
          have h3 := ihr fun x hx => hb x (by simp [hx])
          simp only [nodesA, leavesA, List.length_cons]
          omega
      have := this as_ fun a hx => ih a hx (forms_mem ha a hx)
      omega
theorem nodesA_append (a b : List Dep) : nodesA (a ++ b) = nodesA a + nodesA b := by
  induction a with
  | nil => simp [nodesA]
  | cons x r ih => simp only [List.cons_append, nodesA, ih]; omega
theorem nodesA_ge (a : List Dep) : a.length ≤ nodesA a := by
  induction a with
  | nil => simp [nodesA]
  | cons x r ih => have := nodes_pos x; simp only [nodesA, List.length_cons]; omega
theorem leavesA_append (a b : List Dep) : leavesA (a ++ b) = leavesA a + leavesA b := by
  induction a with
  | nil => simp [leavesA]
  | cons x r ih => simp only [List.cons_append, leavesA, ih]; omega
/-! Words of kinds and signs. -/
end Go.Proofs.YtljldbdjkjllhaaGreatDoor.Ev
namespace Go.Proofs.YtljldbdjkjllhaaGreatDoor.Ev
set_option linter.unusedSimpArgs false
set_option linter.unusedVariables false

/-! A text in words. -/
def scanEnd : Nat → Wd → Nat
  | _, [] => 0
  | o, c :: r => if c = 32 then 0 else if c = 41 ∧ o = 0 then 0 else 1 + scanEnd (if c = 40 then o + 1 else if c = 41 then o - 1 else o) r
def endN : Wd → Nat
  | [] => 0
  | c :: r => if c = 40 ∨ c = 41 then 1 else scanEnd 0 (c :: r)
def skipB (l : Wd) : Wd := l.dropWhile (· == 32)
def cutW (l : Wd) : Wd × Wd := ((skipB l).take (endN (skipB l)), (skipB l).drop (endN (skipB l)))
theorem skipB_le (l : Wd) : (skipB l).length ≤ l.length := by
  unfold skipB
  induction l with
  | nil => simp
  | cons c r ih => rw [List.dropWhile_cons]; split <;> simp <;> omega
theorem skipB_head (l : Wd) (c : UInt8) (r : Wd) (h : skipB l = c :: r) : c ≠ 32 := by
  unfold skipB at h
  induction l with
  | nil => cases h
  | cons b t ih =>
    rw [List.dropWhile_cons] at h
    split at h
    · exact ih h
    · rename_i hb
      injection h with h1 h2
      subst h1
      simpa using hb
theorem endN_pos (c : UInt8) (r : Wd) (h : c ≠ 32) : 1 ≤ endN (c :: r) := by
  simp only [endN]
  split
  · omega
  · rename_i hn
    simp only [scanEnd]
    rw [if_neg h, if_neg (fun e => hn (.inr e.1))]
    omega
theorem cutW_lt {l : Wd} (h : (cutW l).1 ≠ []) : (cutW l).2.length < l.length := by
  have h1 := skipB_le l
  unfold cutW at h ⊢
  simp only at h ⊢
  cases hs : skipB l with
  | nil => rw [hs] at h; simp at h
  | cons c r =>
    have := endN_pos c r (skipB_head l c r hs)
    rw [hs] at h1
    simp only [List.length_drop, List.length_cons] at h1 ⊢
    omega
def words (l : Wd) : List Wd := if h : (cutW l).1 = [] then [] else (cutW l).1 :: words (cutW l).2
termination_by l.length
decreasing_by exact cutW_lt h
/-! The code's reading: what is open, innermost first: its kind, what it has. -/
def node (k : Int) (as_ : List Dep) : Dep := .mk k ⟨#[]⟩ 0 ⟨#[]⟩ as_
def leaf (w : Wd) (o : Int) (e : Wd) : Dep := .mk 1 (mkS w) o (mkS e) []
abbrev Stk := List (Int × List Dep)
/-- Ahead of a dependency (none), or behind one. -/
def run : Nat → Stk → Option Dep → List Wd → Option Dep
  | 0, _, _, _ => none
  | _ + 1, _, none, [] => none
  | f + 1, st, none, w :: r =>
    if w = [40] then run f ((0, []) :: st) none r
    else if nameB w = true then
      (match r with
        | [] => run f st (some (leaf w 0 [])) []
        | s :: r1 => if numS s = 0 then run f st (some (leaf w 0 [])) (s :: r1) else
          (match r1 with
            | [] => run f st (some (leaf w (numS s) [])) []
            | e :: r2 => run f st (some (leaf w (numS s) e)) r2))
    else none
  | _ + 1, [], some d, ws => if ws = [] then some d else none
  | f + 1, (k, p) :: st, some d, ws =>
    match ws with
    | [] => none
    | w :: r => if w = [41] then run f st (some (node k (p ++ [d]))) r else
      if (if k = 0 then numW w else k) ≠ 0 ∧ w = btw (if k = 0 then numW w else k) (p.length + 1) then run f ((if k = 0 then numW w else k, p ++ [d]) :: st) none r else none

end Go.Proofs.YtljldbdjkjllhaaGreatDoor.Ev
namespace Go.Proofs.YtljldbdjkjllhaaGreatDoor.Ev
set_option linter.unusedSimpArgs false
set_option linter.unusedVariables false

/-! Ahead: what may be is read from its words. -/
theorem empty_back {s : ByteArray} (h : s.data.toList = []) : s = ⟨#[]⟩ := by
  obtain ⟨⟨l⟩⟩ := s
  simp at h
  rw [h]
/-! Behind: what is read is its words. -/
mutual
/-- No comparison without a version. -/
def whole : Dep → Bool
  | .mk k _ o e as_ => (decide (k ≠ 1) || decide (o = 0) || decide (e.data.toList ≠ [])) && wholes as_
def wholes : List Dep → Bool
  | [] => true
  | a :: r => whole a && wholes r
end
end Go.Proofs.YtljldbdjkjllhaaGreatDoor.Ev
namespace Go.Proofs.YtljldbdjkjllhaaGreatDoor.Ev
set_option linter.unusedSimpArgs false
set_option linter.unusedVariables false

/-! The document's reading. -/
end Go.Proofs.YtljldbdjkjllhaaGreatDoor.Ev
namespace Go.Proofs.YtljldbdjkjllhaaGreatDoor.Ev
set_option linter.unusedSimpArgs false
set_option linter.unusedVariables false

/-! Both readings of a text. -/
theorem check_bad {d : Dep} (h : ¬ form d = true) : checkN d = 50 := by unfold checkN; rw [if_neg h]
end Go.Proofs.YtljldbdjkjllhaaGreatDoor.Ev

/- How a dependency lies in memory. -/
namespace Go.Proofs.YtljldbdjkjllhaaGreatDoor.Ev
set_option linter.unusedSimpArgs false
set_option linter.unusedVariables false
open Go.RowKit

/-- A dependency's five cells, s being where its arguments lie. -/
def rowD (d : Dep) (s : Value) : Array Value := #[.int .i64 d.kind, .string d.name, .int .i64 d.op, .string d.evr, s]
def CellsD (w : World) (b o : Nat) (d : Dep) (s : Value) : Prop :=
  w.cell? ⟨b, o, none⟩ = some (.int .i64 d.kind) ∧ w.cell? ⟨b, o + 1, none⟩ = some (.string d.name) ∧ w.cell? ⟨b, o + 2, none⟩ = some (.int .i64 d.op) ∧ w.cell? ⟨b, o + 3, none⟩ = some (.string d.evr) ∧ w.cell? ⟨b, o + 4, none⟩ = some s
mutual
/-- s is a slice of d's arguments, which lie in blocks of S, so all that is within them. -/
def Lay (w : World) (S : Nat → Prop) : Dep → Value → Prop
  | .mk _ _ _ _ ds, s => ∃ A c, s = .slice A ds.length c ∧ ds.length ≤ c ∧ (c ≤ maxLen ∧ (A = none → c = 0)) ∧ LayA w S ds A 0
def LayA (w : World) (S : Nat → Prop) : List Dep → Option Addr → Nat → Prop
  | [], _, _ => True
  | a :: r, A, i => (∃ b o s, A = some ⟨b, o, none⟩ ∧ S b ∧ CellsD w b (o + i * 5) a s ∧ Lay w S a s) ∧ LayA w S r A (i + 1)
end
/-- S's blocks are lists of dependencies, none of them marked. -/
def CleanS (w : World) (S : Nat → Prop) : Prop := ∀ b, S b → ∃ cs, Blk w b 44 cs
/-- What stands in S stays. -/
def StayS (S : Nat → Prop) (w w' : World) : Prop := ∀ b, S b → b < w.heap.size → w'.heap[b]? = w.heap[b]?

theorem CellsD.stay {w w' : World} {b o : Nat} {d : Dep} {s : Value} (h : CellsD w b o d s) (e : w'.heap[b]? = w.heap[b]?) : CellsD w' b o d s := by
  have k : ∀ i, w'.cell? ⟨b, i, none⟩ = w.cell? ⟨b, i, none⟩ := fun i => World.cell?_of_block e
  unfold CellsD at h ⊢
  rw [k, k, k, k, k]
  exact h
theorem CellsD.lt {w : World} {b o : Nat} {d : Dep} {s : Value} (h : CellsD w b o d s) : b < w.heap.size := cell_lt h.1
theorem layA_iff {w : World} {S : Nat → Prop} {ds : List Dep} {A : Option Addr} {i : Nat} : LayA w S ds A i ↔ ∀ j a, ds[j]? = some a → ∃ b o s, A = some ⟨b, o, none⟩ ∧ S b ∧ CellsD w b (o + (i + j) * 5) a s ∧ Lay w S a s := by
  induction ds generalizing i with
  | nil => simp [LayA]
  | cons a r ih =>
    simp only [LayA, ih]
    constructor
    · rintro ⟨h0, h⟩ j x hx
      cases j with
      | zero => simp at hx; subst hx; exact h0
      | succ j =>
        have := h j x (by simpa using hx)
        rwa [show i + 1 + j = i + (j + 1) by omega] at this
    · intro h
      refine ⟨by simpa using h 0 a rfl, fun j x hx => ?_⟩
      have := h (j + 1) x (by simpa using hx)
      rwa [show i + (j + 1) = i + 1 + j by omega] at this
theorem lay_iff {w : World} {S : Nat → Prop} {d : Dep} {s : Value} : Lay w S d s ↔ ∃ A c, s = .slice A d.args.length c ∧ d.args.length ≤ c ∧ (c ≤ maxLen ∧ (A = none → c = 0)) ∧ ∀ j a, d.args[j]? = some a → ∃ b o t, A = some ⟨b, o, none⟩ ∧ S b ∧ CellsD w b (o + j * 5) a t ∧ Lay w S a t := by
  obtain ⟨k, n, o, e, ds⟩ := d
  simp only [Lay, layA_iff, Dep.args, Nat.zero_add]
theorem Lay.stay {w w' : World} {S S' : Nat → Prop} (hS : ∀ b, S b → S' b) (hw : StayS S w w') (d : Dep) : ∀ s, Lay w S d s → Lay w' S' d s := by
  induction d using Dep.ind with
  | h k n o e ds ih =>
    intro s h
    rw [lay_iff] at h ⊢
    obtain ⟨A, c, h1, h2, h3, h4⟩ := h
    refine ⟨A, c, h1, h2, h3, fun j a ha => ?_⟩
    obtain ⟨b, p, t, e1, e2, e3, e4⟩ := h4 j a ha
    exact ⟨b, p, t, e1, hS b e2, e3.stay (hw b e2 e3.lt), ih a (List.mem_of_getElem? ha) t e4⟩
theorem CleanS.stay {w w' : World} {S : Nat → Prop} (h : CleanS w S) (hw : StayS S w w') : CleanS w' S := fun b hb => by
  obtain ⟨cs, hc⟩ := h b hb
  exact ⟨cs, (hw b hb hc.lt).trans hc⟩
theorem StayS.refl (S : Nat → Prop) (w : World) : StayS S w w := fun _ _ _ => rfl
theorem StayS.turned {S : Nat → Prop} {w w' : World} {F : List Nat} (ht : Turned F w w') (h : ∀ b, S b → b ∉ F) : StayS S w w' := fun b hb hl => ht.block b hl (h b hb)
theorem StayS.below {S : Nat → Prop} {w w' : World} {B : Nat} (hb : Below B w w') (h : ∀ b, S b → b < B) : StayS S w w' := fun b hs _ => hb.block b (h b hs)
theorem StayS.below' {S : Nat → Prop} {w w' : World} (hb : Below w.heap.size w w') : StayS S w w' := fun b _ hl => hb.block b hl
theorem StayS.trans {S : Nat → Prop} {w w' w'' : World} (h : StayS S w w') (k : StayS S w' w'') (hz : w.heap.size ≤ w'.heap.size) : StayS S w w'' := fun b hb hl => (k b hb (by omega)).trans (h b hb hl)
theorem Lay.form_ {w : World} {S : Nat → Prop} {d : Dep} {s : Value} (h : Lay w S d s) : ∃ A c, s = .slice A d.args.length c ∧ d.args.length ≤ c ∧ c ≤ maxLen := by
  rw [lay_iff] at h
  obtain ⟨A, c, h1, h2, h3, _⟩ := h
  exact ⟨A, c, h1, h2, h3.1⟩
theorem Lay.nil_ {w : World} {S : Nat → Prop} {d : Dep} {n c : Nat} (h : Lay w S d (.slice none n c)) : c = 0 ∧ n = 0 ∧ d.args = [] := by
  rw [lay_iff] at h
  obtain ⟨A, c', h1, h2, h3, _⟩ := h
  injection h1 with e1 e2 e3
  have := h3.2 e1.symm
  subst e3
  have h0 : d.args.length = 0 := by omega
  exact ⟨this, by omega, List.eq_nil_of_length_eq_zero h0⟩
/-- The arguments, one by one. -/
def ArgsAt (w : World) (S : Nat → Prop) (ds : List Dep) (A : Option Addr) : Prop := ∀ j a, ds[j]? = some a → ∃ b o t, A = some ⟨b, o, none⟩ ∧ S b ∧ CellsD w b (o + j * 5) a t ∧ Lay w S a t
theorem Lay.args_ {w : World} {S : Nat → Prop} {d : Dep} {s : Value} (h : Lay w S d s) : ∃ A c, s = .slice A d.args.length c ∧ d.args.length ≤ c ∧ c ≤ maxLen ∧ ArgsAt w S d.args A := by
  obtain ⟨A, c, h1, h2, h3, h4⟩ := lay_iff.1 h
  exact ⟨A, c, h1, h2, h3.1, h4⟩
theorem ArgsAt.stay {w w' : World} {S S' : Nat → Prop} {ds : List Dep} {A : Option Addr} (h : ArgsAt w S ds A) (hS : ∀ b, S b → S' b) (hw : StayS S w w') : ArgsAt w' S' ds A := fun j a ha => by
  obtain ⟨b, p, t, e1, e2, e3, e4⟩ := h j a ha
  exact ⟨b, p, t, e1, hS b e2, e3.stay (hw b e2 e3.lt), e4.stay hS hw⟩
theorem Lay.none_ (w : World) (S : Nat → Prop) (k : Int) (n : ByteArray) (o : Int) (e : ByteArray) : Lay w S (.mk k n o e []) (.slice none 0 0) := by
  rw [lay_iff]
  exact ⟨none, 0, rfl, Nat.le_refl _, ⟨by simp [maxLen], fun _ => rfl⟩, fun j a ha => by simp [Dep.args] at ha⟩

/-! Sizes. -/
mutual
/-- No text is too long. -/
def small : Dep → Prop
  | .mk _ n _ e ds => n.size ≤ 2147483648 ∧ e.size ≤ 2147483648 ∧ smalls ds
def smalls : List Dep → Prop
  | [] => True
  | a :: r => small a ∧ smalls r
end
theorem nodes_parts (d : Dep) : nodes d = 1 + nodesA d.args := by cases d; rfl
end Go.Proofs.YtljldbdjkjllhaaGreatDoor.Ev

/- The kinds of bytes, and how many stand at a text's beginning. -/
namespace Go.Proofs.YtljldbdjkjllhaaGreatDoor.Ev
set_option linter.unusedSimpArgs false
set_option linter.unusedVariables false
open Go.RowKit

/-- A function that tells of a byte. -/
def IsPred (f : FuncId) (p : UInt8 → Bool) : Prop := ∀ (c : UInt8) (w : World), Calls Tryz.prog f #[.int .u8 (c.toNat : Int)] w fun e w' => e = .returned (.bool (p c)) ∧ w = w'

theorem dgI (c : UInt8) : isDg c = (decide ((48 : Int) ≤ (c.toNat : Int)) && decide ((c.toNat : Int) ≤ 57)) := by
  unfold isDg
  rw [Bool.eq_iff_iff]; simp; omega
theorem ltI (c : UInt8) : isLt c = (decide ((97 : Int) ≤ (c.toNat : Int)) && decide ((c.toNat : Int) ≤ 122) || decide ((65 : Int) ≤ (c.toNat : Int)) && decide ((c.toNat : Int) ≤ 90)) := by
  unfold isLt
  rw [Bool.eq_iff_iff]; simp; omega

set_option maxRecDepth 100000 in
theorem isDigit_any : IsPred 183 isDg := by
  intro c w
  have h := Lib.hid (dgI c)
  go_enter Tryz.func183, Tryz.ntmps183
  go_wp2_with fail
  all_goals
    go_ret
    refine ⟨ret_bool ?_, rfl⟩
    rw [h.out, Bool.eq_iff_iff]
    simp <;> omega
set_option maxRecDepth 100000 in
theorem isLetter_any : IsPred 230 isLt := by
  intro c w
  have h := Lib.hid (ltI c)
  go_enter Tryz.func230, Tryz.ntmps230
  go_wp2_with fail
  all_goals
    go_ret
    refine ⟨ret_bool ?_, rfl⟩
    rw [h.out, Bool.eq_iff_iff]
    simp <;> omega
theorem all_snoc {p : UInt8 → Bool} {l : List UInt8} {k : Nat} {c : UInt8} (h : (l.take k).all p = true) (hc : l[k]? = some c) (hp : p c = true) : (l.take (k + 1)).all p = true := by
  rw [List.take_add_one, hc, List.all_append, h]
  simp [hp]
theorem while_is {p : UInt8 → Bool} {l : List UInt8} {k : Nat} (h : (l.take k).all p = true) (hk : k ≤ l.length) (hc : ∀ c, l[k]? = some c → p c = false) : k = (l.takeWhile p).length := by
  induction l generalizing k with
  | nil => simp at hk; subst hk; rfl
  | cons b l ih =>
    cases k with
    | zero =>
      have := hc b rfl
      simp [this]
    | succ k =>
      simp only [List.take_succ_cons, List.all_cons, Bool.and_eq_true] at h
      rw [List.takeWhile_cons, h.1]
      have := ih h.2 (by simpa using hk) (fun c hcc => hc c (by simpa using hcc))
      simp [← this]
theorem byte_at {s : ByteArray} {k : Nat} (h : k < s.size) : s.data.toList[k]? = some s[k] := by
  have h' : k < s.data.size := h
  rw [Array.getElem?_toList, Array.getElem?_eq_getElem h']
  rfl
set_option maxHeartbeats 400000 in
set_option maxRecDepth 100000 in
theorem run_any {f : FuncId} {p : UInt8 → Bool} (hp : IsPred f p) (ef : ∀ args w, (callFunc f args).run Tryz.prog w = .ok (.enter f args) w) (s : ByteArray) (hs : s.size ≤ maxLen) (w : World) :
    Calls Tryz.prog 181 #[.string s, .func (.func f) #[] #[]] w fun e w' => e = .returned (.int .i64 ((s.data.toList.takeWhile p).length : Nat)) ∧ w = w' := by
  unfold maxLen at hs
  have HP := Lib.hid hp
  clear hp
  go_enter Tryz.func181, Tryz.ntmps181
  go_wp2_with fail
  go_loop [5] (fun n => ∃ k : Nat, k ≤ s.size ∧ n = .int .i64 (k : Int) ∧ Hid ((s.data.toList.take k).all p = true)) (fun n => s.size - (intOf n).toNat)
  case atStart => exact ⟨0, Nat.zero_le _, rfl, show ((s.data.toList.take 0).all p = true) from rfl⟩
  case round =>
    obtain ⟨k, hk, rfl, hall⟩ := hrel
    by_cases hlt : k < s.size
    · have C := Lib.hid (HP.out s[k])
      cases hpk : p s[k] with
      | true =>
        have HN := Lib.hid (all_snoc hall.out (byte_at hlt) hpk)
        rw [hpk] at C
        clear hpk
        go_wp2_with fail
        refine (C.out _).mono ?_
        rintro e w' ⟨rfl, rfl⟩
        go_wp2_with fail
        go_round
        case rel => exact ⟨k + 1, by omega, by go_num, HN.out⟩
        case measure => simp [intOf]; omega
      | false =>
        have HN := Lib.hid (while_is hall.out (by simpa using hk) (fun c hc => by rw [byte_at hlt] at hc; injection hc with hc; rw [← hc]; exact hpk))
        rw [hpk] at C
        clear hpk
        go_wp2_with fail
        refine (C.out _).mono ?_
        rintro e w' ⟨rfl, rfl⟩
        go_wp2_with fail
        go_ret
        rw [← HN.out]
        exact ⟨rfl, rfl⟩
    · have HN := Lib.hid (while_is hall.out (by simpa using hk) (fun c hc => by have := (List.getElem?_eq_some_iff.1 hc).1; simp at this; exact absurd this hlt))
      go_wp2_with fail
      go_ret
      rw [← HN.out]
      exact ⟨rfl, rfl⟩
end Go.Proofs.YtljldbdjkjllhaaGreatDoor.Ev

/- Pieces of texts. -/
namespace Go.Proofs.YtljldbdjkjllhaaGreatDoor.Ev
set_option linter.unusedSimpArgs false
set_option linter.unusedVariables false
open Go.RowKit
theorem list_nil {s : ByteArray} (h : s.size = 0) : s.data.toList = [] := by
  apply List.eq_nil_of_length_eq_zero
  simpa using h
theorem list_cons {s : ByteArray} (h : 0 < s.size) : s.data.toList = s[0] :: s.data.toList.tail := by
  have h0 := byte_at h
  cases hl : s.data.toList with
  | nil => rw [hl] at h0; cases h0
  | cons b r => rw [hl] at h0; simp at h0; rw [← h0]; rfl
theorem size_len (s : ByteArray) : s.data.toList.length = s.size := by simp
theorem empty_of {s : ByteArray} (h : s.size = 0) : s = ⟨#[]⟩ := by
  obtain ⟨⟨l⟩⟩ := s
  have : l = [] := List.eq_nil_of_length_eq_zero h
  rw [this]
theorem toList_cons {s : ByteArray} (h : 0 < s.size) : s.toList.isEmpty = false := by
  rw [ByteArray.toList_eq, list_cons h]; rfl

theorem bl_from (s : ByteArray) (n : Nat) : (s.extract n s.size).data.toList = s.data.toList.drop n := by
  rw [Lib.extract_data, List.take_of_length_le (by simp)]
theorem bl_upto (s : ByteArray) (n : Nat) : (s.extract 0 n).data.toList = s.data.toList.take n := by
  rw [Lib.extract_data]; simp
end Go.Proofs.YtljldbdjkjllhaaGreatDoor.Ev

/- The contracts of the library's functions on texts: they stand in the shelf's text. -/

/- (nothing but what stands below it) -/

/- Which bytes a version may have. -/
namespace Go.Proofs.YtljldbdjkjllhaaGreatDoor.Ev
set_option linter.unusedSimpArgs false
set_option linter.unusedVariables false
open Go.RowKit

theorem u8_back (c : UInt8) : ((c.toNat : Int)).toNat.toUInt8 = c := by simp
theorem indexB_ge {l : List UInt8} {c : UInt8} : decide (0 ≤ Lib.indexByte l c) = decide (c ∈ l) := by
  by_cases h : c ∈ l
  · rw [index_yes h]; simp [h]
  · rw [index_no h]; simp [h]
set_option maxRecDepth 100000 in
theorem mayBe_any : IsPred 182 isMay := by
  intro c w
  have CD := Lib.hid (isDigit_any c)
  have CL := Lib.hid (isLetter_any c)
  have CI := Lib.hid (fun w => Tryz.strings_IndexByte ⟨#[46, 95, 43, 126, 94, 45, 58]⟩ (c.toNat : Int) w)
  rw [u8_back] at CI
  have hx := @indexB_ge [46, 95, 43, 126, 94, 45, 58] c
  have hm : isMay c = (isDg c || isLt c || decide (c ∈ ([46, 95, 43, 126, 94, 45, 58] : List UInt8))) := rfl
  rw [← hx] at hm
  have HM := Lib.hid hm
  clear hx hm
  change Hid (∀ w, Calls Tryz.prog 55 #[.string ⟨#[46, 95, 43, 126, 94, 45, 58]⟩, .int .u8 (c.toNat : Int)] w fun e w' => e = .returned (.int .i64 (Lib.indexByte [46, 95, 43, 126, 94, 45, 58] c)) ∧ w' = w) at CI
  generalize Lib.indexByte [46, 95, 43, 126, 94, 45, 58] c = x at *
  generalize isDg c = d at *
  generalize isLt c = l at *
  cases d <;> cases l
  all_goals
    go_enter Tryz.func182, Tryz.ntmps182
    go_wp2_with fail
    refine (CD.out _).mono ?_
    rintro e w' ⟨rfl, rfl⟩
    go_wp2_with fail
    try
      refine (CL.out _).mono ?_
      rintro e w' ⟨rfl, rfl⟩
      go_wp2_with fail
    try
      refine (CI.out _).mono ?_
      rintro e w' ⟨rfl, rfl⟩
      go_wp2_with fail
  all_goals
    go_ret
    refine ⟨ret_bool ?_, rfl⟩
    rw [HM.out]
    first | rfl | simp

end Go.Proofs.YtljldbdjkjllhaaGreatDoor.Ev

/- A version taken apart: split. -/
namespace Go.Proofs.YtljldbdjkjllhaaGreatDoor.Ev
set_option linter.unusedSimpArgs false
set_option linter.unusedVariables false
open Go.RowKit

/-- A version's parts as a value. -/
def evrV : Option Parts → Value
  | none => .agg #[.string ⟨#[]⟩, .string ⟨#[]⟩, .string ⟨#[]⟩]
  | some p => .agg #[.string (mkS p.e), .string (mkS p.v), .string (mkS p.r)]
def SplitPost (w0 : World) (o : Option Parts) (e : Ending) (w : World) : Prop := e = .returned (.tuple #[evrV o, .bool o.isSome]) ∧ Below w0.heap.size w0 w
theorem SplitPost.mk_none {w0 w : World} {o : Option Parts} (h : o = none) (hb : Below w0.heap.size w0 w) : SplitPost w0 o (.returned (.tuple #[.agg #[.string ⟨#[]⟩, .string ⟨#[]⟩, .string ⟨#[]⟩], .bool false])) w := by
  subst h; exact ⟨rfl, hb⟩
theorem SplitPost.mk_some {w0 w : World} {o : Option Parts} {e v r : ByteArray} (h : o = some ⟨e.data.toList, v.data.toList, r.data.toList⟩) (hb : Below w0.heap.size w0 w) : SplitPost w0 o (.returned (.tuple #[.agg #[.string e, .string v, .string r], .bool true])) w := by
  subst h; exact ⟨rfl, hb⟩

set_option maxHeartbeats 1000000 in
set_option maxRecDepth 100000 in
theorem split_long (s : ByteArray) (h : 60 < s.size) (w : World) : Calls Tryz.prog 125 #[.string s] w (SplitPost w (parse s.data.toList)) := by
  have HP := Lib.hid (parse_bad (l := s.data.toList) (by rw [size_len]; omega))
  have h1 : (60 : Int) < (s.size : Int) := by omega
  go_enter Tryz.func125, Tryz.ntmps125
  go_wp2_with fail
  refine bodyPost_ret (v := .tuple #[.agg #[.string ⟨#[]⟩, .string ⟨#[]⟩, .string ⟨#[]⟩], .bool false]) (by simp [results, Tryz.results125, go_sem]) rfl (SplitPost.mk_none HP.out ?_)
  exact (Below.refl _ _).alloc (Nat.le_refl _) _
end Go.Proofs.YtljldbdjkjllhaaGreatDoor.Ev

/- A version taken apart: split, where its bytes may be. -/
namespace Go.Proofs.YtljldbdjkjllhaaGreatDoor.Ev
set_option linter.unusedSimpArgs false
set_option linter.unusedVariables false
open Go.RowKit

set_option maxHeartbeats 2000000 in
set_option maxRecDepth 100000 in
theorem split_may (s : ByteArray) (h : s.size ≤ 60) (hm : s.data.toList.all isMay = false) (w : World) : Calls Tryz.prog 125 #[.string s] w (SplitPost w (parse s.data.toList)) := by
  have HP := Lib.hid (parse_bad (l := s.data.toList) (by rw [hm]; rintro ⟨_, h⟩; cases h))
  have CM := Lib.hid (fun w => run_any mayBe_any (enters_of Tryz.func182 (by kernel_rfl) rfl) s (by unfold maxLen; omega) w)
  have CI := Lib.hid (fun w => Tryz.strings_IndexByte s 58 w)
  have h60 : (s.size : Int) ≤ 60 := by omega
  have h0 : (0 : Int) ≤ (s.size : Int) := by omega
  have hlt := not_all_while hm
  rw [size_len] at hlt
  generalize (s.data.toList.takeWhile isMay).length = n at *
  clear hm
  go_enter Tryz.func125, Tryz.ntmps125
  go_wp2_with fail
  refine (CM.out _).mono ?_
  rintro e w1 ⟨rfl, rfl⟩
  go_wp2_with fail
  refine bodyPost_ret (v := .tuple #[.agg #[.string ⟨#[]⟩, .string ⟨#[]⟩, .string ⟨#[]⟩], .bool false]) (by simp [results, Tryz.results125, go_sem]) rfl (SplitPost.mk_none HP.out ?_)
  first | exact (Below.refl _ _).alloc (Nat.le_refl _) _ | exact ((Below.refl _ _).alloc (Nat.le_refl _) _).alloc (by simp) _ | exact (((Below.refl _ _).alloc (Nat.le_refl _) _).alloc (by simp) _).drew | exact ((((Below.refl _ _).alloc (Nat.le_refl _) _).alloc (by simp) _).drew).drew

set_option maxHeartbeats 8000000 in
set_option maxRecDepth 100000 in
theorem split_plain (s : ByteArray) (h : s.size ≤ 60) (hm : s.data.toList.all isMay = true) (hc : (58 : UInt8) ∉ s.data.toList) (w : World) : Calls Tryz.prog 125 #[.string s] w (SplitPost w (parse s.data.toList)) := by
  have CM := Lib.hid (fun w => run_any mayBe_any (enters_of Tryz.func182 (by kernel_rfl) rfl) s (by unfold maxLen; omega) w)
  have CI := Lib.hid (fun w => Tryz.strings_IndexByte s 58 w)
  have h60 : (s.size : Int) ≤ 60 := by omega
  have h0 : (0 : Int) ≤ (s.size : Int) := by omega
  have HG := Lib.hid (show s.data.toList.length ≤ 60 ∧ s.data.toList.all isMay = true from ⟨by rw [size_len]; exact h, hm⟩)
  have hall := all_while hm
  rw [size_len] at hall
  have HP0 := Lib.hid (parse_plain HG.out hc)
  change Hid (∀ w, Calls Tryz.prog 55 #[.string s, .int .u8 58] w fun e w' => e = .returned (.int .i64 (Lib.indexByte s.data.toList 58)) ∧ w' = w) at CI
  rw [index_no hc] at CI
  rw [hall] at CM
  clear hm hall
  by_cases hd : (45 : UInt8) ∈ s.data.toList
  · skip
    obtain ⟨j, hj, ej, hj45, hjn⟩ := last_yes (s := s) hd
    have CL := Lib.hid (fun w => Tryz.strings_LastIndexByte (s) 45 (by omega) w)
    rw [show (45 : Int) = ((45 : UInt8).toNat : Int) from rfl, ej] at CL
    change Hid (∀ w, Calls Tryz.prog 184 #[.string (s), .int .u8 45] w fun e w' => e = .returned (.int .i64 (j : Int)) ∧ w' = w) at CL
    have CC := Lib.hid (fun w => Tryz.strings_Contains_one (s) 58 w)
    rw [indexB_ge] at CC
    have LV : (s.extract 0 j).data.toList = s.data.toList.take j := bl_upto _ _
    have LR : (s.extract (j + 1) s.size).data.toList = s.data.toList.drop (j + 1) := bl_from _ _
    have j0 : (0 : Int) ≤ (j : Int) := by omega
    have j1 : (j : Int) + 1 ≤ (s.size : Int) := by omega
    have j2 : (j : Int) ≤ (s.size : Int) := by omega
    have j3 : (s.size : Int) ≤ 60 := by omega
    clear hd ej hj
    by_cases zr : (s.extract (j + 1) s.size).data.toList = []
    · skip
      have HP := Lib.hid (HP0.out.trans (vr_empty hj45 hjn (.inr (LR ▸ zr))))
      have zra : (s.extract (j + 1) s.size).toList.isEmpty = true := by rw [ByteArray.toList_eq, zr]; rfl
      have zrb : (s.extract (j + 1) s.size).toList = [] := by rw [ByteArray.toList_eq, zr]
      clear zr LV LR hj45 hjn HP0 CC
      go_enter Tryz.func125, Tryz.ntmps125
      go_wp2_with fail
      refine (CM.out _).mono ?_
      rintro e w1 ⟨rfl, rfl⟩
      go_wp2_with fail
      refine (CI.out _).mono ?_
      rintro e w1 ⟨rfl, rfl⟩
      go_wp2_with fail
      refine (CL.out _).mono ?_
      rintro e w1 ⟨rfl, rfl⟩
      go_wp2_with fail
      go_region
      all_goals go_wp2_with fail
      all_goals
        refine bodyPost_ret (v := .tuple #[.agg #[.string ⟨#[]⟩, .string ⟨#[]⟩, .string ⟨#[]⟩], .bool false]) (by simp [results, Tryz.results125, go_sem]) rfl (SplitPost.mk_none HP.out ?_)
        first | exact (Below.refl _ _).alloc (Nat.le_refl _) _ | exact ((Below.refl _ _).alloc (Nat.le_refl _) _).alloc (by simp) _ | exact (((Below.refl _ _).alloc (Nat.le_refl _) _).alloc (by simp) _).drew | exact ((((Below.refl _ _).alloc (Nat.le_refl _) _).alloc (by simp) _).drew).drew
    · skip
      have hr0 : 0 < (s.extract (j + 1) s.size).size := by rw [← size_len]; exact List.length_pos_iff.2 zr
      have zra := toList_cons (s := s.extract (j + 1) s.size) (by exact hr0)
      have zrb : (s.extract (j + 1) s.size).toList ≠ [] := by intro h; rw [h] at zra; cases zra
      by_cases zv : (s.extract 0 j).data.toList = []
      · skip
        have HP := Lib.hid (HP0.out.trans (vr_empty hj45 hjn (.inl (LV ▸ zv))))
        have zva : (s.extract 0 j).toList.isEmpty = true := by rw [ByteArray.toList_eq, zv]; rfl
        have zvb : (s.extract 0 j).toList = [] := by rw [ByteArray.toList_eq, zv]
        clear zr zv hr0 LV LR hj45 hjn HP0 CC
        go_enter Tryz.func125, Tryz.ntmps125
        go_wp2_with fail
        refine (CM.out _).mono ?_
        rintro e w1 ⟨rfl, rfl⟩
        go_wp2_with fail
        refine (CI.out _).mono ?_
        rintro e w1 ⟨rfl, rfl⟩
        go_wp2_with fail
        refine (CL.out _).mono ?_
        rintro e w1 ⟨rfl, rfl⟩
        go_wp2_with fail
        go_region
        all_goals go_wp2_with fail
        all_goals
          refine bodyPost_ret (v := .tuple #[.agg #[.string ⟨#[]⟩, .string ⟨#[]⟩, .string ⟨#[]⟩], .bool false]) (by simp [results, Tryz.results125, go_sem]) rfl (SplitPost.mk_none HP.out ?_)
          first | exact (Below.refl _ _).alloc (Nat.le_refl _) _ | exact ((Below.refl _ _).alloc (Nat.le_refl _) _).alloc (by simp) _ | exact (((Below.refl _ _).alloc (Nat.le_refl _) _).alloc (by simp) _).drew | exact ((((Below.refl _ _).alloc (Nat.le_refl _) _).alloc (by simp) _).drew).drew
      · skip
        have hv0 : 0 < (s.extract 0 j).size := by rw [← size_len]; exact List.length_pos_iff.2 zv
        have zva := toList_cons (s := s.extract 0 j) (by exact hv0)
        have zvb : (s.extract 0 j).toList ≠ [] := by intro h; rw [h] at zva; cases zva
        have hc2 := hc
        have HP : Hid (parse s.data.toList = some ⟨((⟨#[]⟩ : ByteArray)).data.toList, (s.extract 0 j).data.toList, (s.extract (j + 1) s.size).data.toList⟩) := by
          refine HP0.out.trans ?_
          rw [vr_dash hc2 hj45 hjn, ← LV, ← LR, if_neg (fun h => h.elim zv zr)]
          try rfl
        rw [show decide ((58 : UInt8) ∈ s.data.toList) = false from decide_eq_false hc2] at CC
        clear zr zv hr0 hv0 LV LR hj45 hjn HP0 hc2
        go_enter Tryz.func125, Tryz.ntmps125
        go_wp2_with fail
        refine (CM.out _).mono ?_
        rintro e w1 ⟨rfl, rfl⟩
        go_wp2_with fail
        refine (CI.out _).mono ?_
        rintro e w1 ⟨rfl, rfl⟩
        go_wp2_with fail
        refine (CL.out _).mono ?_
        rintro e w1 ⟨rfl, rfl⟩
        go_wp2_with fail
        go_region
        all_goals
          go_wp2_with fail
          refine (CC.out _).mono ?_
          rintro e w1 ⟨rfl, rfl⟩
          go_wp2_with fail
          refine bodyPost_ret (v := .tuple #[.agg #[.string (⟨#[]⟩ : ByteArray), .string (s.extract 0 j), .string (s.extract (j + 1) s.size)], .bool true]) (by simp [results, Tryz.results125, go_sem]) rfl (SplitPost.mk_some HP.out ?_)
          first | exact (Below.refl _ _).alloc (Nat.le_refl _) _ | exact ((Below.refl _ _).alloc (Nat.le_refl _) _).alloc (by simp) _ | exact (((Below.refl _ _).alloc (Nat.le_refl _) _).alloc (by simp) _).drew | exact ((((Below.refl _ _).alloc (Nat.le_refl _) _).alloc (by simp) _).drew).drew
  · skip
    have CL := Lib.hid (fun w => Tryz.strings_LastIndexByte (s) 45 (by omega) w)
    rw [show (45 : Int) = ((45 : UInt8).toNat : Int) from rfl, last_no hd] at CL
    change Hid (∀ w, Calls Tryz.prog 184 #[.string (s), .int .u8 45] w fun e w' => e = .returned (.int .i64 (-1)) ∧ w' = w) at CL
    have CC := Lib.hid (fun w => Tryz.strings_Contains_one (s) 58 w)
    rw [indexB_ge] at CC
    by_cases zv : (s).data.toList = []
    · skip
      have HP : Hid (parse s.data.toList = none) := HP0.out.trans (by rw [vr_plain (by rw [zv]; simp) hd, if_pos zv])
      have zva : (s).toList.isEmpty = true := by rw [ByteArray.toList_eq, zv]; rfl
      have zvb : (s).toList = [] := by rw [ByteArray.toList_eq, zv]
      clear zv hd HP0 CC
      go_enter Tryz.func125, Tryz.ntmps125
      go_wp2_with fail
      refine (CM.out _).mono ?_
      rintro e w1 ⟨rfl, rfl⟩
      go_wp2_with fail
      refine (CI.out _).mono ?_
      rintro e w1 ⟨rfl, rfl⟩
      go_wp2_with fail
      refine (CL.out _).mono ?_
      rintro e w1 ⟨rfl, rfl⟩
      go_wp2_with fail
      refine bodyPost_ret (v := .tuple #[.agg #[.string ⟨#[]⟩, .string ⟨#[]⟩, .string ⟨#[]⟩], .bool false]) (by simp [results, Tryz.results125, go_sem]) rfl (SplitPost.mk_none HP.out ?_)
      first | exact (Below.refl _ _).alloc (Nat.le_refl _) _ | exact ((Below.refl _ _).alloc (Nat.le_refl _) _).alloc (by simp) _ | exact (((Below.refl _ _).alloc (Nat.le_refl _) _).alloc (by simp) _).drew | exact ((((Below.refl _ _).alloc (Nat.le_refl _) _).alloc (by simp) _).drew).drew
    · skip
      have hv0 : 0 < (s).size := by rw [← size_len]; exact List.length_pos_iff.2 zv
      have zva := toList_cons (s := s) (by exact hv0)
      have zvb : (s).toList ≠ [] := by intro h; rw [h] at zva; cases zva
      have hc2 := hc
      have HP : Hid (parse s.data.toList = some ⟨((⟨#[]⟩ : ByteArray)).data.toList, (s).data.toList, (⟨#[]⟩ : ByteArray).data.toList⟩) := by
        refine HP0.out.trans ?_
        rw [vr_plain hc2 hd, if_neg zv]
        try rfl
      rw [show decide ((58 : UInt8) ∈ s.data.toList) = false from decide_eq_false hc2] at CC
      clear zv hv0 hd HP0 hc2
      go_enter Tryz.func125, Tryz.ntmps125
      go_wp2_with fail
      refine (CM.out _).mono ?_
      rintro e w1 ⟨rfl, rfl⟩
      go_wp2_with fail
      refine (CI.out _).mono ?_
      rintro e w1 ⟨rfl, rfl⟩
      go_wp2_with fail
      refine (CL.out _).mono ?_
      rintro e w1 ⟨rfl, rfl⟩
      go_wp2_with fail
      refine (CC.out _).mono ?_
      rintro e w1 ⟨rfl, rfl⟩
      go_wp2_with fail
      refine bodyPost_ret (v := .tuple #[.agg #[.string (⟨#[]⟩ : ByteArray), .string (s), .string ⟨#[]⟩], .bool true]) (by simp [results, Tryz.results125, go_sem]) rfl (SplitPost.mk_some HP.out ?_)
      first | exact (Below.refl _ _).alloc (Nat.le_refl _) _ | exact ((Below.refl _ _).alloc (Nat.le_refl _) _).alloc (by simp) _ | exact (((Below.refl _ _).alloc (Nat.le_refl _) _).alloc (by simp) _).drew | exact ((((Below.refl _ _).alloc (Nat.le_refl _) _).alloc (by simp) _).drew).drew
set_option maxHeartbeats 8000000 in
set_option maxRecDepth 100000 in
theorem split_epoch (s : ByteArray) (h : s.size ≤ 60) (hm : s.data.toList.all isMay = true) (hc : (58 : UInt8) ∈ s.data.toList) (w : World) (hbad : ∀ k, k = (s.data.toList.takeWhile (· != 58)).length → ¬ (k ≠ 0 ∧ k ≤ 9 ∧ (s.data.toList.take k).all isDg = true)) : Calls Tryz.prog 125 #[.string s] w (SplitPost w (parse s.data.toList)) := by
  have CM := Lib.hid (fun w => run_any mayBe_any (enters_of Tryz.func182 (by kernel_rfl) rfl) s (by unfold maxLen; omega) w)
  have CI := Lib.hid (fun w => Tryz.strings_IndexByte s 58 w)
  have h60 : (s.size : Int) ≤ 60 := by omega
  have h0 : (0 : Int) ≤ (s.size : Int) := by omega
  have HG := Lib.hid (show s.data.toList.length ≤ 60 ∧ s.data.toList.all isMay = true from ⟨by rw [size_len]; exact h, hm⟩)
  have hall := all_while hm
  rw [size_len] at hall
  have HCI := Lib.hid (index_yes hc)
  change Hid (∀ w, Calls Tryz.prog 55 #[.string s, .int .u8 58] w fun e w' => e = .returned (.int .i64 (Lib.indexByte s.data.toList 58)) ∧ w' = w) at CI
  rw [index_yes hc] at CI
  have HPC := Lib.hid (fun k hk => parse_colon HG.out hc (k := k) hk)
  have klt := while_lt hc
  rw [size_len] at klt
  rw [hall] at CM
  clear hm hall HCI
  obtain ⟨k, hk⟩ : ∃ k, k = (s.data.toList.takeWhile (· != 58)).length := ⟨_, rfl⟩
  have HP1 := Lib.hid (HPC.out k hk)
  have hbad := hbad k hk
  rw [← hk] at CI klt
  clear hk HPC hc
  have k0 : (0 : Int) ≤ (k : Int) := by omega
  have k1 : (k : Int) + 1 ≤ (s.size : Int) := by omega
  have k2 : (k : Int) ≤ (s.size : Int) := by omega
  have HP := Lib.hid (HP1.out.trans (if_neg hbad))
  by_cases kz : k = 0
  · subst kz
    clear hbad HP1
    go_enter Tryz.func125, Tryz.ntmps125
    go_wp2_with fail
    refine (CM.out _).mono ?_
    rintro e w1 ⟨rfl, rfl⟩
    go_wp2_with fail
    refine (CI.out _).mono ?_
    rintro e w1 ⟨rfl, rfl⟩
    go_wp2_with fail
    go_region
    all_goals go_wp2_with fail
    all_goals
      refine bodyPost_ret (v := .tuple #[.agg #[.string ⟨#[]⟩, .string ⟨#[]⟩, .string ⟨#[]⟩], .bool false]) (by simp [results, Tryz.results125, go_sem]) rfl (SplitPost.mk_none HP.out ?_)
      first | exact (Below.refl _ _).alloc (Nat.le_refl _) _ | exact ((Below.refl _ _).alloc (Nat.le_refl _) _).alloc (by simp) _ | exact (((Below.refl _ _).alloc (Nat.le_refl _) _).alloc (by simp) _).drew | exact ((((Below.refl _ _).alloc (Nat.le_refl _) _).alloc (by simp) _).drew).drew
  · by_cases k9 : 9 < k
    · have k3 : (9 : Int) < (k : Int) := by omega
      have k4 : ((k : Int) == 0) = false := by simp; omega
      clear hbad HP1 kz k9
      go_enter Tryz.func125, Tryz.ntmps125
      go_wp2_with fail
      refine (CM.out _).mono ?_
      rintro e w1 ⟨rfl, rfl⟩
      go_wp2_with fail
      refine (CI.out _).mono ?_
      rintro e w1 ⟨rfl, rfl⟩
      go_wp2_with fail
      go_region
      all_goals go_wp2_with fail
      all_goals
        refine bodyPost_ret (v := .tuple #[.agg #[.string ⟨#[]⟩, .string ⟨#[]⟩, .string ⟨#[]⟩], .bool false]) (by simp [results, Tryz.results125, go_sem]) rfl (SplitPost.mk_none HP.out ?_)
        first | exact (Below.refl _ _).alloc (Nat.le_refl _) _ | exact ((Below.refl _ _).alloc (Nat.le_refl _) _).alloc (by simp) _ | exact (((Below.refl _ _).alloc (Nat.le_refl _) _).alloc (by simp) _).drew | exact ((((Below.refl _ _).alloc (Nat.le_refl _) _).alloc (by simp) _).drew).drew
    · have hd : (s.data.toList.take k).all isDg = false := by
        cases hx : (s.data.toList.take k).all isDg with
        | false => rfl
        | true => exact absurd ⟨kz, by omega, hx⟩ hbad
      have hlt := not_all_while hd
      rw [← bl_upto, size_len] at hlt
      have hsz : (s.extract 0 k).size = k := by rw [← size_len, bl_upto, List.length_take, size_len]; omega
      rw [hsz] at hlt
      have CE := Lib.hid (fun w => run_any isDigit_any (enters_of Tryz.func183 (by kernel_rfl) rfl) (s.extract 0 k) (by rw [hsz]; unfold maxLen; omega) w)
      generalize ((s.extract 0 k).data.toList.takeWhile isDg).length = m at *
      have k3 : (k : Int) ≤ 9 := by omega
      have k4 : ((k : Int) == 0) = false := by simp; omega
      have k5 : (m : Int) < (k : Int) := by omega
      have k6 : ¬ (9 : Int) < (k : Int) := by omega
      clear hbad HP1 kz k9 hd hlt hsz
      go_enter Tryz.func125, Tryz.ntmps125
      go_wp2_with fail
      refine (CM.out _).mono ?_
      rintro e w1 ⟨rfl, rfl⟩
      go_wp2_with fail
      refine (CI.out _).mono ?_
      rintro e w1 ⟨rfl, rfl⟩
      go_wp2_with fail
      go_region
      all_goals go_wp2_with fail
      all_goals
        refine (CE.out _).mono ?_
        rintro e w1 ⟨rfl, rfl⟩
        go_wp2_with fail
        refine bodyPost_ret (v := .tuple #[.agg #[.string ⟨#[]⟩, .string ⟨#[]⟩, .string ⟨#[]⟩], .bool false]) (by simp [results, Tryz.results125, go_sem]) rfl (SplitPost.mk_none HP.out ?_)
        first | exact (Below.refl _ _).alloc (Nat.le_refl _) _ | exact ((Below.refl _ _).alloc (Nat.le_refl _) _).alloc (by simp) _ | exact (((Below.refl _ _).alloc (Nat.le_refl _) _).alloc (by simp) _).drew | exact ((((Below.refl _ _).alloc (Nat.le_refl _) _).alloc (by simp) _).drew).drew
end Go.Proofs.YtljldbdjkjllhaaGreatDoor.Ev
