/- The library's words for places of bytes, in the words of lists. A version's parts, as the code takes it apart. Dependencies as_ trees: which may be, their texts, their words. Nothing of the program. Words, and how they are read as_ a dependency: word by word with a stack, as_ the code goes; one within the other, as_ the document's answer goes. What is written is read: words of a text, reading of words, and back. The words of what is printed; the document's reading of words, one within the other. The document's reading of a dependency's words is that dependency; both readings of any text come out the same. -/
import Derived.Test.YtdhgiammfpjniaaGreatDoorZaaf
import Derived.Lib.Bytealg
import Derived.Lib.LastIndexByte
import Derived.Lib.TrimByte
import Derived.Lib.Small
/- The library's words for places of bytes, in the words of lists. -/
namespace Go.Proofs.YtdhgiammfpjniaaGreatDoor.Ev
set_option linter.unusedSimpArgs false
set_option linter.unusedVariables false
open Go.Lib

/-! The first such byte. -/
theorem index_no {l : List UInt8} {c : UInt8} (h : c ∉ l) : indexByte l c = -1 := by
  induction l with
  | nil => rfl
  | cons b l ih =>
    simp only [List.mem_cons, not_or] at h
    unfold indexByte
    rw [ih h.2]
    have : (b == c) = false := beq_eq_false_iff_ne.2 fun e => h.1 e.symm
    simp [this]
theorem index_yes {l : List UInt8} {c : UInt8} (h : c ∈ l) : indexByte l c = (l.takeWhile (· != c)).length := by
  induction l with
  | nil => cases h
  | cons b l ih =>
    unfold indexByte
    by_cases hb : b = c
    · subst hb; simp
    · have h2 : c ∈ l := by
        rcases List.mem_cons.1 h with h | h
        · exact absurd h.symm hb
        · exact h
      have hne : (b == c) = false := beq_eq_false_iff_ne.2 hb
      have hn : (b != c) = true := by simp [hb]
      rw [ih h2, hne, List.takeWhile_cons, hn]
      have : ((((l.takeWhile (· != c)).length : Nat) : Int) == -1) = false := by simp
      rw [this]
      simp
theorem take_of_while {p : UInt8 → Bool} (l : List UInt8) : l.takeWhile p = l.take (l.takeWhile p).length := by
  induction l with
  | nil => rfl
  | cons b l ih =>
    rw [List.takeWhile_cons]
    split
    · simp [← ih]
    · simp
theorem drop_of_while {p : UInt8 → Bool} (l : List UInt8) : l.dropWhile p = l.drop (l.takeWhile p).length := by
  induction l with
  | nil => rfl
  | cons b l ih =>
    rw [List.takeWhile_cons, List.dropWhile_cons]
    split
    · simp [← ih]
    · simp
theorem while_lt {l : List UInt8} {c : UInt8} (h : c ∈ l) : (l.takeWhile (· != c)).length < l.length := by
  induction l with
  | nil => cases h
  | cons b l ih =>
    rw [List.takeWhile_cons]
    split
    · rename_i hb
      rcases List.mem_cons.1 h with h | h
      · subst h; simp at hb
      · simp [ih h]
    · simp
/-- A text's cut at the first such byte. -/
theorem cutAt_yes {l : List UInt8} {c : UInt8} (h : c ∈ l) : cutAt c l = some (l.take (l.takeWhile (· != c)).length, l.drop ((l.takeWhile (· != c)).length + 1)) := by
  unfold cutAt
  rw [if_pos h, ← take_of_while, drop_of_while, List.tail_drop]
theorem cutAt_no {l : List UInt8} {c : UInt8} (h : c ∉ l) : cutAt c l = none := by unfold cutAt; rw [if_neg h]
/-- A text's cut is known by where the byte stands. -/
theorem cutAt_at {l : List UInt8} {c : UInt8} {k : Nat} (hk : l[k]? = some c) (hn : ∀ j, j < k → l[j]? ≠ some c) : cutAt c l = some (l.take k, l.drop (k + 1)) := by
  have hm : c ∈ l := List.mem_of_getElem? hk
  rw [cutAt_yes hm]
  have : (l.takeWhile (· != c)).length = k := by
    induction l generalizing k with
    | nil => cases hm
    | cons b l ih =>
      cases k with
      | zero =>
        simp at hk; subst hk
        simp
      | succ k =>
        have hb : b ≠ c := by have := hn 0 (by omega); simpa using this
        have hb' : (b != c) = true := by simp [hb]
        rw [List.takeWhile_cons, hb']
        have hk' : l[k]? = some c := by simpa using hk
        have := ih hk' (fun j hj => by have := hn (j + 1) (by omega); simpa using this) (List.mem_of_getElem? hk')
        simp [this]
  rw [this]
/-- The cut at the last such byte. -/
theorem cutLast_at {l : List UInt8} {c : UInt8} {k : Nat} (hk : l[k]? = some c) (hn : ∀ j, k < j → j < l.length → l[j]? ≠ some c) : cutLast c l = some (l.take k, l.drop (k + 1)) := by
  have hlt : k < l.length := (List.getElem?_eq_some_iff.1 hk).1
  unfold cutLast
  rw [cutAt_at (k := l.length - 1 - k)]
  · simp only [Option.map_some, List.drop_reverse, List.take_reverse, List.reverse_reverse]
    rw [show l.length - (l.length - 1 - k + 1) = k by omega, show l.length - (l.length - 1 - k) = k + 1 by omega]
  · rw [List.getElem?_reverse (by omega), show l.length - 1 - (l.length - 1 - k) = k by omega]; exact hk
  · intro j hj
    rw [List.getElem?_reverse (by omega)]
    exact hn _ (by omega) (by omega)
theorem cutLast_no {l : List UInt8} {c : UInt8} (h : c ∉ l) : cutLast c l = none := by
  unfold cutLast
  rw [cutAt_no (by simpa using h)]
  rfl
/-- The last such byte's place. -/
theorem last_no {s : ByteArray} {c : UInt8} (h : c ∉ s.data.toList) : lastIndexByte s (c.toNat : Int) = -1 := by
  rcases lastIndexByte_spec s (c.toNat : Int) with ⟨e, _⟩ | ⟨i, hi, _, hc, _⟩
  · exact e
  · exfalso
    apply h
    have hi' : i < s.data.size := hi
    have : s.data[i]! = s.data[i] := getElem!_pos s.data i hi'
    rw [this] at hc
    have : s.data[i] = c := UInt8.toNat_inj.1 (by omega)
    rw [← this]
    exact Array.mem_toList_iff.2 (Array.getElem_mem hi')
theorem last_yes {s : ByteArray} {c : UInt8} (h : c ∈ s.data.toList) : ∃ k : Nat, k < s.size ∧ lastIndexByte s (c.toNat : Int) = k ∧ s.data.toList[k]? = some c ∧ ∀ j, k < j → j < s.data.toList.length → s.data.toList[j]? ≠ some c := by
  rcases lastIndexByte_spec s (c.toNat : Int) with ⟨_, hn⟩ | ⟨i, hi, e, hc, hn⟩
  · exfalso
    obtain ⟨i, hi⟩ := List.getElem?_of_mem h
    have hlt := (List.getElem?_eq_some_iff.1 hi).1
    have hi' : i < s.data.size := by simpa using hlt
    apply hn i hi'
    rw [getElem!_pos s.data i hi']
    rw [Array.getElem?_toList, Array.getElem?_eq_getElem hi'] at hi
    injection hi with hi
    rw [hi]
  · refine ⟨i, hi, e, ?_, fun j h1 h2 => ?_⟩
    · have hi' : i < s.data.size := hi
      rw [getElem!_pos s.data i hi'] at hc
      rw [Array.getElem?_toList, Array.getElem?_eq_getElem hi']
      congr 1
      exact UInt8.toNat_inj.1 (by omega)
    · have hj : j < s.data.size := by simpa using h2
      have := hn j h1 hj
      rw [getElem!_pos s.data j hj] at this
      rw [Array.getElem?_toList, Array.getElem?_eq_getElem hj]
      intro h3
      injection h3 with h3
      rw [h3] at this
      exact this rfl
end Go.Proofs.YtdhgiammfpjniaaGreatDoor.Ev

/- A version's parts, as the code takes it apart. -/
namespace Go.Proofs.YtdhgiammfpjniaaGreatDoor.Ev
set_option linter.unusedSimpArgs false
set_option linter.unusedVariables false
open Go.Lib

/-! Taking apart, as the code goes. -/
def mkS (l : List UInt8) : ByteArray := ⟨l.toArray⟩
theorem parse_bad {l : List UInt8} (h : ¬ (l.length ≤ 60 ∧ l.all isMay = true)) : parse l = none := by unfold parse; rw [if_neg h]
theorem parse_plain {l : List UInt8} (h : l.length ≤ 60 ∧ l.all isMay = true) (hc : (58 : UInt8) ∉ l) : parse l = vr [] l := by
  unfold parse; rw [if_pos h, cutAt_no hc]
theorem parse_colon {l : List UInt8} (h : l.length ≤ 60 ∧ l.all isMay = true) (hc : (58 : UInt8) ∈ l) {k : Nat} (hk : k = (l.takeWhile (· != 58)).length) :
    parse l = if k ≠ 0 ∧ k ≤ 9 ∧ (l.take k).all isDg = true then vr (l.take k) (l.drop (k + 1)) else none := by
  have hlt := while_lt hc
  subst hk
  unfold parse
  rw [if_pos h, cutAt_yes hc]
  simp only
  have e1 : (l.take (l.takeWhile (· != 58)).length ≠ []) ↔ (l.takeWhile (· != 58)).length ≠ 0 := by
    rw [← List.length_pos_iff, List.length_take]; omega
  have e2 : (l.take (l.takeWhile (· != 58)).length).length = (l.takeWhile (· != 58)).length := by rw [List.length_take]; omega
  by_cases hx : (l.takeWhile (· != 58)).length ≠ 0 ∧ (l.takeWhile (· != 58)).length ≤ 9 ∧ (l.take (l.takeWhile (· != 58)).length).all isDg = true
  · rw [if_pos hx, if_pos ⟨e1.2 hx.1, by rw [e2]; exact hx.2.1, hx.2.2⟩]
  · rw [if_neg hx, if_neg (fun hy => hx ⟨e1.1 hy.1, by rw [← e2]; exact hy.2.1, hy.2.2⟩)]
theorem vr_colon {e l : List UInt8} (h : (58 : UInt8) ∈ l) : vr e l = none := by unfold vr; rw [if_pos h]
theorem vr_plain {e l : List UInt8} (h : (58 : UInt8) ∉ l) (hd : (45 : UInt8) ∉ l) : vr e l = if l = [] then none else some ⟨e, l, []⟩ := by
  unfold vr; rw [if_neg h, cutLast_no hd]
theorem vr_dash {e l : List UInt8} (h : (58 : UInt8) ∉ l) {k : Nat} (hk : l[k]? = some (45 : UInt8)) (hn : ∀ j, k < j → j < l.length → l[j]? ≠ some (45 : UInt8)) :
    vr e l = if l.take k = [] ∨ l.drop (k + 1) = [] then none else some ⟨e, l.take k, l.drop (k + 1)⟩ := by
  unfold vr; rw [if_neg h, cutLast_at hk hn]
theorem vr_empty {e l : List UInt8} {k : Nat} (hk : l[k]? = some (45 : UInt8)) (hn : ∀ j, k < j → j < l.length → l[j]? ≠ some (45 : UInt8)) (h : l.take k = [] ∨ l.drop (k + 1) = []) : vr e l = none := by
  by_cases hc : (58 : UInt8) ∈ l
  · exact vr_colon hc
  · rw [vr_dash hc hk hn, if_pos h]
theorem all_while {p : UInt8 → Bool} {l : List UInt8} (h : l.all p = true) : (l.takeWhile p).length = l.length := by
  induction l with
  | nil => rfl
  | cons b l ih =>
    simp only [List.all_cons, Bool.and_eq_true] at h
    rw [List.takeWhile_cons, h.1]; simp [ih h.2]
theorem not_all_while {p : UInt8 → Bool} {l : List UInt8} (h : l.all p = false) : (l.takeWhile p).length < l.length := by
  induction l with
  | nil => cases h
  | cons b l ih =>
    rw [List.takeWhile_cons]
    cases hb : p b with
    | false => simp
    | true =>
      simp only [List.all_cons, hb, Bool.true_and] at h
      simp [ih h]
end Go.Proofs.YtdhgiammfpjniaaGreatDoor.Ev

/- Dependencies as_ trees: which may be, their texts, their words. Nothing of the program. Words, and how they are read as_ a dependency: word by word with a stack, as_ the code goes; one within the other, as_ the document's answer goes. What is written is read: words of a text, reading of words, and back. The words of what is printed; the document's reading of words, one within the other. The document's reading of a dependency's words is that dependency; both readings of any text come out the same. -/
namespace Go.Proofs.YtdhgiammfpjniaaGreatDoor.Ev
set_option linter.unusedSimpArgs false
set_option linter.unusedVariables false

inductive Dep where
  | mk (kind : Int) (name : ByteArray) (op : Int) (evr : ByteArray) (args : List Dep) : Dep
namespace Dep
def kind : Dep → Int | .mk k _ _ _ _ => k
def name : Dep → ByteArray | .mk _ n _ _ _ => n
def op : Dep → Int | .mk _ _ o _ _ => o
def evr : Dep → ByteArray | .mk _ _ _ e _ => e
def args : Dep → List Dep | .mk _ _ _ _ a => a
/-- What holds of a dependency if it holds of its arguments. -/
theorem ind {P : Dep → Prop} (h : ∀ k n o e as_, (∀ a ∈ as_, P a) → P (.mk k n o e as_)) : ∀ d, P d := by
  intro d
  refine Dep.rec (motive_1 := P) (motive_2 := fun as_ => ∀ a ∈ as_, P a) (fun k n o e as_ ih => h k n o e as_ ih) (fun a ha => by cases ha) (fun a as_ h1 h2 x hx => ?_) d
  rcases List.mem_cons.1 hx with rfl | hx
  · exact h1
  · exact h2 x hx
end Dep

abbrev Wd := List UInt8
def wAnd : Wd := [97, 110, 100]
def wOr : Wd := [111, 114]
def wIf : Wd := [105, 102]
def wElse : Wd := [101, 108, 115, 101]
def wWith : Wd := [119, 105, 116, 104]
def wWithout : Wd := [119, 105, 116, 104, 111, 117, 116]
/-- Which kind's word it is; which comparison's sign. -/
def numW (w : Wd) : Int := if w = wAnd then 2 else if w = wOr then 3 else if w = wIf then 4 else if w = wWith then 5 else if w = wWithout then 6 else 0
def numS (w : Wd) : Int := if w = [60] then 1 else if w = [61] then 2 else if w = [60, 61] then 3 else if w = [62] then 4 else if w = [60, 62] then 5 else if w = [62, 61] then 6 else if w = [60, 61, 62] then 7 else 0
def wordT (k : Int) : Wd := if k = 2 then wAnd else if k = 3 then wOr else if k = 4 then wIf else if k = 5 then wWith else if k = 6 then wWithout else []
def signT (o : Int) : Wd := if o = 1 then [60] else if o = 2 then [61] else if o = 3 then [60, 61] else if o = 4 then [62] else if o = 5 then [60, 62] else if o = 6 then [62, 61] else if o = 7 then [60, 61, 62] else []
def btw (k : Int) (n : Nat) : Wd := if k = 4 ∧ n = 2 then wElse else wordT k

/-- The parentheses of a name, and its bytes. -/
def scan : Nat → Wd → Bool
  | o, [] => o == 0
  | o, c :: r => if c < 33 ∨ 126 < c then false else if c = 40 then scan (o + 1) r else if c = 41 then (if o = 0 then false else scan (o - 1) r) else scan o r
def nameB (l : Wd) : Bool := decide (1 ≤ l.length) && decide (l.length ≤ 60) && decide (l.head? ≠ some 40) && decide (l ≠ wElse) && decide (numW l = 0) && decide (numS l = 0) && scan 0 l
def evrB (l : Wd) : Bool := (parse l).isSome
def mayCmp (op : Int) (l : Wd) : Bool := if op = 0 then decide (l = []) else decide (0 ≤ op) && decide (op < 8) && evrB l
def single (d : Dep) : Bool := decide (d.kind = 1) || decide (d.kind = 5) || decide (d.kind = 6)
def numArgs (k : Int) (as_ : List Dep) : Bool :=
  if k = 2 ∨ k = 3 then decide (2 ≤ as_.length) else if k = 4 then decide (as_.length = 2) || decide (as_.length = 3)
  else if k = 5 then decide (2 ≤ as_.length) && as_.all single else if k = 6 then decide (as_.length = 2) && as_.all single else false
def mayPart (d : Dep) : Bool :=
  if d.kind = 1 then nameB d.name.data.toList && mayCmp d.op d.evr.data.toList && decide (d.args.length = 0)
  else decide (d.name.data.toList = []) && decide (d.op = 0) && decide (d.evr.data.toList = []) && numArgs d.kind d.args

mutual
def form : Dep → Bool
  | .mk k n o e as_ => mayPart (.mk k n o e as_) && forms as_
def forms : List Dep → Bool
  | [] => true
  | a :: r => form a && forms r
end
mutual
def leaves : Dep → Nat
  | .mk k _ _ _ as_ => if k = 1 then 1 else leavesA as_
def leavesA : List Dep → Nat
  | [] => 0
  | a :: r => leaves a + leavesA r
end
mutual
def nodes : Dep → Nat
  | .mk _ _ _ _ as_ => 1 + nodesA as_
def nodesA : List Dep → Nat
  | [] => 0
  | a :: r => nodes a + nodesA r
end
mutual
def depth : Dep → Nat
  | .mk k _ _ _ as_ => if k = 1 then 0 else 1 + depthA as_
def depthA : List Dep → Nat
  | [] => 0
  | a :: r => max (depth a) (depthA r)
end
mutual
def namesOf : Dep → List ByteArray
  | .mk k n _ _ as_ => (if k = 1 then [n] else []) ++ namesA as_
def namesA : List Dep → List ByteArray
  | [] => []
  | a :: r => namesOf a ++ namesA r
end
mutual
def text : Dep → Wd
  | .mk k n o e as_ => if k = 1 then n.data.toList ++ (if o = 0 then [] else 32 :: signT o ++ 32 :: e.data.toList) else 40 :: texts k 0 as_ ++ [41]
def texts (k : Int) : Nat → List Dep → Wd
  | _, [] => []
  | i, a :: r => (if i = 0 then [] else 32 :: btw k i ++ [32]) ++ text a ++ texts k (i + 1) r
end
mutual
def toks : Dep → List Wd
  | .mk k n o e as_ => if k = 1 then n.data.toList :: (if o = 0 then [] else [signT o, e.data.toList]) else [40] :: toksA k 0 as_ ++ [[41]]
def toksA (k : Int) : Nat → List Dep → List Wd
  | _, [] => []
  | i, a :: r => (if i = 0 then [] else [btw k i]) ++ toks a ++ toksA k (i + 1) r
end
def checkN (d : Dep) : Int := if form d = true then (if 16 < leaves d then 51 else 0) else 50

theorem forms_mem {as_ : List Dep} (h : forms as_ = true) : ∀ a ∈ as_, form a = true := by
  induction as_ with
  | nil => intro a ha; cases ha
  | cons b r ih =>
    simp only [forms, Bool.and_eq_true] at h
    intro a ha
    rcases List.mem_cons.1 ha with rfl | ha
    · exact h.1
    · exact ih h.2 a ha
theorem forms_of {as_ : List Dep} (h : ∀ a ∈ as_, form a = true) : forms as_ = true := by
  induction as_ with
  | nil => rfl
  | cons b r ih =>
    simp only [forms, Bool.and_eq_true]
    exact ⟨h b (by simp), ih fun a ha => h a (by simp [ha])⟩
theorem form_may {d : Dep} (h : form d = true) : mayPart d = true := by
  obtain ⟨k, n, o, e, as_⟩ := d
  simp only [form, Bool.and_eq_true] at h
  exact h.1
theorem form_args {d : Dep} (h : form d = true) : forms d.args = true := by
  obtain ⟨k, n, o, e, as_⟩ := d
  simp only [form, Bool.and_eq_true] at h
  exact h.2

/-- What a dependency that may be is made of. -/
theorem may_leaf {k o : Int} {n e : ByteArray} {as_ : List Dep} (h : mayPart (.mk k n o e as_) = true) (hk : k = 1) : nameB n.data.toList = true ∧ mayCmp o e.data.toList = true ∧ as_ = [] := by
  unfold mayPart at h
  rw [if_pos (show (Dep.mk k n o e as_).kind = 1 from hk)] at h
  simp only [Dep.kind, Dep.name, Dep.op, Dep.evr, Dep.args, Bool.and_eq_true] at h
  exact ⟨h.1.1, h.1.2, List.eq_nil_of_length_eq_zero (of_decide_eq_true h.2)⟩
theorem may_node {k o : Int} {n e : ByteArray} {as_ : List Dep} (h : mayPart (.mk k n o e as_) = true) (hk : k ≠ 1) : n.data.toList = [] ∧ o = 0 ∧ e.data.toList = [] ∧ numArgs k as_ = true := by
  unfold mayPart at h
  rw [if_neg (show ¬ (Dep.mk k n o e as_).kind = 1 from hk)] at h
  simp only [Dep.kind, Dep.name, Dep.op, Dep.evr, Dep.args, Bool.and_eq_true] at h
  exact ⟨of_decide_eq_true h.1.1.1, of_decide_eq_true h.1.1.2, of_decide_eq_true h.1.2, h.2⟩
theorem args_kind {k : Int} {as_ : List Dep} (h : numArgs k as_ = true) : 2 ≤ k ∧ k ≤ 6 ∧ 2 ≤ as_.length ∧ (k = 4 → as_.length ≤ 3) ∧ (k = 6 → as_.length = 2) := by
  unfold numArgs at h
  split at h
  · rename_i hk; simp at h; omega
  · split at h
    · simp at h; omega
    · split at h
      · simp at h; omega
      · split at h
        · simp at h; omega
        · cases h

theorem nodes_pos (d : Dep) : 1 ≤ nodes d := by cases d; simp only [nodes]; omega
theorem nodes_leaves (d : Dep) : form d = true → nodes d + 1 ≤ 2 * leaves d := by
  induction d using Dep.ind with
  | h k n o e as_ ih =>
    intro hf
    have hm := form_may hf
    have ha := form_args hf
    simp only [Dep.args] at ha
    simp only [nodes, leaves]
    by_cases hk : k = 1
    · obtain ⟨_, _, rfl⟩ := may_leaf hm hk
      simp [hk, nodesA]
    · rw [if_neg hk]
      have h2 := (args_kind (may_node hm hk).2.2.2).2.2.1
      have : ∀ bs : List Dep, (∀ b ∈ bs, nodes b + 1 ≤ 2 * leaves b) → nodesA bs + bs.length ≤ 2 * leavesA bs := by
        intro bs
        induction bs with
        | nil => intro _; simp [nodesA, leavesA]
        | cons b r ihr =>
          intro hb
          have h1 := hb b (by simp)
          have h3 := ihr fun x hx => hb x (by simp [hx])
          simp only [nodesA, leavesA, List.length_cons]
          omega
      have := this as_ fun a hx => ih a hx (forms_mem ha a hx)
      omega
theorem nodesA_append (a b : List Dep) : nodesA (a ++ b) = nodesA a + nodesA b := by
  induction a with
  | nil => simp [nodesA]
  | cons x r ih => simp only [List.cons_append, nodesA, ih]; omega
theorem nodesA_ge (a : List Dep) : a.length ≤ nodesA a := by
  induction a with
  | nil => simp [nodesA]
  | cons x r ih => have := nodes_pos x; simp only [nodesA, List.length_cons]; omega
theorem leavesA_append (a b : List Dep) : leavesA (a ++ b) = leavesA a + leavesA b := by
  induction a with
  | nil => simp [leavesA]
  | cons x r ih => simp only [List.cons_append, leavesA, ih]; omega
/-! Words of kinds and signs. -/
end Go.Proofs.YtdhgiammfpjniaaGreatDoor.Ev
namespace Go.Proofs.YtdhgiammfpjniaaGreatDoor.Ev
set_option linter.unusedSimpArgs false
set_option linter.unusedVariables false

/-! A text in words. -/
def scanEnd : Nat → Wd → Nat
  | _, [] => 0
  | o, c :: r => if c = 32 then 0 else if c = 41 ∧ o = 0 then 0 else 1 + scanEnd (if c = 40 then o + 1 else if c = 41 then o - 1 else o) r
def endN : Wd → Nat
  | [] => 0
  | c :: r => if c = 40 ∨ c = 41 then 1 else scanEnd 0 (c :: r)
def skipB (l : Wd) : Wd := l.dropWhile (· == 32)
def cutW (l : Wd) : Wd × Wd := ((skipB l).take (endN (skipB l)), (skipB l).drop (endN (skipB l)))
theorem skipB_le (l : Wd) : (skipB l).length ≤ l.length := by
  unfold skipB
  induction l with
  | nil => simp
  | cons c r ih => rw [List.dropWhile_cons]; split <;> simp <;> omega
theorem skipB_head (l : Wd) (c : UInt8) (r : Wd) (h : skipB l = c :: r) : c ≠ 32 := by
  unfold skipB at h
  induction l with
  | nil => cases h
  | cons b t ih =>
    rw [List.dropWhile_cons] at h
    split at h
    · exact ih h
    · rename_i hb
      injection h with h1 h2
      subst h1
      simpa using hb
theorem endN_pos (c : UInt8) (r : Wd) (h : c ≠ 32) : 1 ≤ endN (c :: r) := by
  simp only [endN]
  split
  · omega
  · rename_i hn
    simp only [scanEnd]
    rw [if_neg h, if_neg (fun e => hn (.inr e.1))]
    omega
theorem cutW_lt {l : Wd} (h : (cutW l).1 ≠ []) : (cutW l).2.length < l.length := by
  have h1 := skipB_le l
  unfold cutW at h ⊢
  simp only at h ⊢
  cases hs : skipB l with
  | nil => rw [hs] at h; simp at h
  | cons c r =>
    have := endN_pos c r (skipB_head l c r hs)
    rw [hs] at h1
    simp only [List.length_drop, List.length_cons] at h1 ⊢
    omega
def words (l : Wd) : List Wd := if h : (cutW l).1 = [] then [] else (cutW l).1 :: words (cutW l).2
termination_by l.length
decreasing_by exact cutW_lt h
/-! The code's reading: what is open, innermost first: its kind, what it has. -/
def node (k : Int) (as_ : List Dep) : Dep := .mk k ⟨#[]⟩ 0 ⟨#[]⟩ as_
def leaf (w : Wd) (o : Int) (e : Wd) : Dep := .mk 1 (mkS w) o (mkS e) []
abbrev Stk := List (Int × List Dep)
/-- Ahead of a dependency (none), or behind one. -/
def run : Nat → Stk → Option Dep → List Wd → Option Dep
  | 0, _, _, _ => none
  | _ + 1, _, none, [] => none
  | f + 1, st, none, w :: r =>
    if w = [40] then run f ((0, []) :: st) none r
    else if nameB w = true then
      (match r with
        | [] => run f st (some (leaf w 0 [])) []
        | s :: r1 => if numS s = 0 then run f st (some (leaf w 0 [])) (s :: r1) else
          (match r1 with
            | [] => run f st (some (leaf w (numS s) [])) []
            | e :: r2 => run f st (some (leaf w (numS s) e)) r2))
    else none
  | _ + 1, [], some d, ws => if ws = [] then some d else none
  | f + 1, (k, p) :: st, some d, ws =>
    match ws with
    | [] => none
    | w :: r => if w = [41] then run f st (some (node k (p ++ [d]))) r else
      if (if k = 0 then numW w else k) ≠ 0 ∧ w = btw (if k = 0 then numW w else k) (p.length + 1) then run f ((if k = 0 then numW w else k, p ++ [d]) :: st) none r else none

end Go.Proofs.YtdhgiammfpjniaaGreatDoor.Ev
namespace Go.Proofs.YtdhgiammfpjniaaGreatDoor.Ev
set_option linter.unusedSimpArgs false
set_option linter.unusedVariables false

/-! Ahead: what may be is read from its words. -/
theorem empty_back {s : ByteArray} (h : s.data.toList = []) : s = ⟨#[]⟩ := by
  obtain ⟨⟨l⟩⟩ := s
  simp at h
  rw [h]
/-! Behind: what is read is its words. -/
mutual
/-- No comparison without a version. -/
def whole : Dep → Bool
  | .mk k _ o e as_ => (decide (k ≠ 1) || decide (o = 0) || decide (e.data.toList ≠ [])) && wholes as_
def wholes : List Dep → Bool
  | [] => true
  | a :: r => whole a && wholes r
end
end Go.Proofs.YtdhgiammfpjniaaGreatDoor.Ev
namespace Go.Proofs.YtdhgiammfpjniaaGreatDoor.Ev
set_option linter.unusedSimpArgs false
set_option linter.unusedVariables false

/-! The document's reading. -/
end Go.Proofs.YtdhgiammfpjniaaGreatDoor.Ev
namespace Go.Proofs.YtdhgiammfpjniaaGreatDoor.Ev
set_option linter.unusedSimpArgs false
set_option linter.unusedVariables false

/-! Both readings of a text. -/
theorem check_bad {d : Dep} (h : ¬ form d = true) : checkN d = 50 := by unfold checkN; rw [if_neg h]
end Go.Proofs.YtdhgiammfpjniaaGreatDoor.Ev
