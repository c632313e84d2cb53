/- Dependencies as_ trees: which may be, their texts, their words. Nothing of the program. Words, and how they are read as_ a dependency: word by word with a stack, as_ the code goes; one within the other, as_ the document's answer goes. What is written is read: words of a text, reading of words, and back. The words of what is printed; the document's reading of words, one within the other. The document's reading of a dependency's words is that dependency; both readings of any text come out the same. How a dependency lies in memory. -/
import Derived.Test.YtdhgiammfpjniaaGreatDoorZaaf
import Derived.Test.YtdhgiammfpjniaaGreatDoorZaaa
/- Dependencies as_ trees: which may be, their texts, their words. Nothing of the program. Words, and how they are read as_ a dependency: word by word with a stack, as_ the code goes; one within the other, as_ the document's answer goes. What is written is read: words of a text, reading of words, and back. The words of what is printed; the document's reading of words, one within the other. The document's reading of a dependency's words is that dependency; both readings of any text come out the same. -/
namespace Go.Proofs.YtdhgiammfpjniaaGreatDoor.Ev
set_option linter.unusedSimpArgs false
set_option linter.unusedVariables false

inductive Dep where
  | mk (kind : Int) (name : ByteArray) (op : Int) (evr : ByteArray) (args : List Dep) : Dep
namespace Dep
def kind : Dep → Int | .mk k _ _ _ _ => k
def name : Dep → ByteArray | .mk _ n _ _ _ => n
def op : Dep → Int | .mk _ _ o _ _ => o
def evr : Dep → ByteArray | .mk _ _ _ e _ => e
def args : Dep → List Dep | .mk _ _ _ _ a => a
/-- What holds of a dependency if it holds of its arguments. -/
theorem ind {P : Dep → Prop} (h : ∀ k n o e as_, (∀ a ∈ as_, P a) → P (.mk k n o e as_)) : ∀ d, P d := by
  intro d
  refine Dep.rec (motive_1 := P) (motive_2 := fun as_ => ∀ a ∈ as_, P a) (fun k n o e as_ ih => h k n o e as_ ih) (fun a ha => by cases ha) (fun a as_ h1 h2 x hx => ?_) d
  rcases List.mem_cons.1 hx with rfl | hx
  · exact h1
  · exact h2 x hx
end Dep

abbrev Wd := List UInt8
def wAnd : Wd := [97, 110, 100]
def wOr : Wd := [111, 114]
def wIf : Wd := [105, 102]
def wElse : Wd := [101, 108, 115, 101]
def wWith : Wd := [119, 105, 116, 104]
def wWithout : Wd := [119, 105, 116, 104, 111, 117, 116]
/-- Which kind's word it is; which comparison's sign. -/
def numW (w : Wd) : Int := if w = wAnd then 2 else if w = wOr then 3 else if w = wIf then 4 else if w = wWith then 5 else if w = wWithout then 6 else 0
def numS (w : Wd) : Int := if w = [60] then 1 else if w = [61] then 2 else if w = [60, 61] then 3 else if w = [62] then 4 else if w = [60, 62] then 5 else if w = [62, 61] then 6 else if w = [60, 61, 62] then 7 else 0
def wordT (k : Int) : Wd := if k = 2 then wAnd else if k = 3 then wOr else if k = 4 then wIf else if k = 5 then wWith else if k = 6 then wWithout else []
def signT (o : Int) : Wd := if o = 1 then [60] else if o = 2 then [61] else if o = 3 then [60, 61] else if o = 4 then [62] else if o = 5 then [60, 62] else if o = 6 then [62, 61] else if o = 7 then [60, 61, 62] else []
def btw (k : Int) (n : Nat) : Wd := if k = 4 ∧ n = 2 then wElse else wordT k

/-- The parentheses of a name, and its bytes. -/
def scan : Nat → Wd → Bool
  | o, [] => o == 0
  | o, c :: r => if c < 33 ∨ 126 < c then false else if c = 40 then scan (o + 1) r else if c = 41 then (if o = 0 then false else scan (o - 1) r) else scan o r
def nameB (l : Wd) : Bool := decide (1 ≤ l.length) && decide (l.length ≤ 60) && decide (l.head? ≠ some 40) && decide (l ≠ wElse) && decide (numW l = 0) && decide (numS l = 0) && scan 0 l
def evrB (l : Wd) : Bool := (parse l).isSome
def mayCmp (op : Int) (l : Wd) : Bool := if op = 0 then decide (l = []) else decide (0 ≤ op) && decide (op < 8) && evrB l
def single (d : Dep) : Bool := decide (d.kind = 1) || decide (d.kind = 5) || decide (d.kind = 6)
def numArgs (k : Int) (as_ : List Dep) : Bool :=
  if k = 2 ∨ k = 3 then decide (2 ≤ as_.length) else if k = 4 then decide (as_.length = 2) || decide (as_.length = 3)
  else if k = 5 then decide (2 ≤ as_.length) && as_.all single else if k = 6 then decide (as_.length = 2) && as_.all single else false
def mayPart (d : Dep) : Bool :=
  if d.kind = 1 then nameB d.name.data.toList && mayCmp d.op d.evr.data.toList && decide (d.args.length = 0)
  else decide (d.name.data.toList = []) && decide (d.op = 0) && decide (d.evr.data.toList = []) && numArgs d.kind d.args

mutual
def form : Dep → Bool
  | .mk k n o e as_ => mayPart (.mk k n o e as_) && forms as_
def forms : List Dep → Bool
  | [] => true
  | a :: r => form a && forms r
end
mutual
def leaves : Dep → Nat
  | .mk k _ _ _ as_ => if k = 1 then 1 else leavesA as_
def leavesA : List Dep → Nat
  | [] => 0
  | a :: r => leaves a + leavesA r
end
mutual
def nodes : Dep → Nat
  | .mk _ _ _ _ as_ => 1 + nodesA as_
def nodesA : List Dep → Nat
  | [] => 0
  | a :: r => nodes a + nodesA r
end
mutual
def depth : Dep → Nat
  | .mk k _ _ _ as_ => if k = 1 then 0 else 1 + depthA as_
def depthA : List Dep → Nat
  | [] => 0
  | a :: r => max (depth a) (depthA r)
end
mutual
def namesOf : Dep → List ByteArray
  | .mk k n _ _ as_ => (if k = 1 then [n] else []) ++ namesA as_
def namesA : List Dep → List ByteArray
  | [] => []
  | a :: r => namesOf a ++ namesA r
end
mutual
def text : Dep → Wd
  | .mk k n o e as_ => if k = 1 then n.data.toList ++ (if o = 0 then [] else 32 :: signT o ++ 32 :: e.data.toList) else 40 :: texts k 0 as_ ++ [41]
def texts (k : Int) : Nat → List Dep → Wd
  | _, [] => []
  | i, a :: r => (if i = 0 then [] else 32 :: btw k i ++ [32]) ++ text a ++ texts k (i + 1) r
end
mutual
def toks : Dep → List Wd
  | .mk k n o e as_ => if k = 1 then n.data.toList :: (if o = 0 then [] else [signT o, e.data.toList]) else [40] :: toksA k 0 as_ ++ [[41]]
def toksA (k : Int) : Nat → List Dep → List Wd
  | _, [] => []
  | i, a :: r => (if i = 0 then [] else [btw k i]) ++ toks a ++ toksA k (i + 1) r
end
def checkN (d : Dep) : Int := if form d = true then (if 16 < leaves d then 51 else 0) else 50

theorem forms_mem {as_ : List Dep} (h : forms as_ = true) : ∀ a ∈ as_, form a = true := by
  induction as_ with
  | nil => intro a ha; cases ha
  | cons b r ih =>
    simp only [forms, Bool.and_eq_true] at h
    intro a ha
    rcases List.mem_cons.1 ha with rfl | ha
    · exact h.1
    · exact ih h.2 a ha
theorem forms_of {as_ : List Dep} (h : ∀ a ∈ as_, form a = true) : forms as_ = true := by
  induction as_ with
  | nil => rfl
  | cons b r ih =>
    simp only [forms, Bool.and_eq_true]
    exact ⟨h b (by simp), ih fun a ha => h a (by simp [ha])⟩
theorem form_may {d : Dep} (h : form d = true) : mayPart d = true := by
  obtain ⟨k, n, o, e, as_⟩ := d
  simp only [form, Bool.and_eq_true] at h
  exact h.1
theorem form_args {d : Dep} (h : form d = true) : forms d.args = true := by
  obtain ⟨k, n, o, e, as_⟩ := d
  simp only [form, Bool.and_eq_true] at h
  exact h.2

/-- What a dependency that may be is made of. -/
theorem may_leaf {k o : Int} {n e : ByteArray} {as_ : List Dep} (h : mayPart (.mk k n o e as_) = true) (hk : k = 1) : nameB n.data.toList = true ∧ mayCmp o e.data.toList = true ∧ as_ = [] := by
  unfold mayPart at h
  rw [if_pos (show (Dep.mk k n o e as_).kind = 1 from hk)] at h
  simp only [Dep.kind, Dep.name, Dep.op, Dep.evr, Dep.args, Bool.and_eq_true] at h
  exact ⟨h.1.1, h.1.2, List.eq_nil_of_length_eq_zero (of_decide_eq_true h.2)⟩
theorem may_node {k o : Int} {n e : ByteArray} {as_ : List Dep} (h : mayPart (.mk k n o e as_) = true) (hk : k ≠ 1) : n.data.toList = [] ∧ o = 0 ∧ e.data.toList = [] ∧ numArgs k as_ = true := by
  unfold mayPart at h
  rw [if_neg (show ¬ (Dep.mk k n o e as_).kind = 1 from hk)] at h
  simp only [Dep.kind, Dep.name, Dep.op, Dep.evr, Dep.args, Bool.and_eq_true] at h
  exact ⟨of_decide_eq_true h.1.1.1, of_decide_eq_true h.1.1.2, of_decide_eq_true h.1.2, h.2⟩
theorem args_kind {k : Int} {as_ : List Dep} (h : numArgs k as_ = true) : 2 ≤ k ∧ k ≤ 6 ∧ 2 ≤ as_.length ∧ (k = 4 → as_.length ≤ 3) ∧ (k = 6 → as_.length = 2) := by
  unfold numArgs at h
  split at h
  · rename_i hk; simp at h; omega
  · split at h
    · simp at h; omega
    · split at h
      · simp at h; omega
      · split at h
        · simp at h; omega
        · cases h

theorem nodes_pos (d : Dep) : 1 ≤ nodes d := by cases d; simp only [nodes]; omega
theorem nodes_leaves (d : Dep) : form d = true → nodes d + 1 ≤ 2 * leaves d := by
  induction d using Dep.ind with
  | h k n o e as_ ih =>
    intro hf
    have hm := form_may hf
    have ha := form_args hf
    simp only [Dep.args] at ha
    simp only [nodes, leaves]
    by_cases hk : k = 1
    · obtain ⟨_, _, rfl⟩ := may_leaf hm hk
      simp [hk, nodesA]
    · rw [if_neg hk]
      have h2 := (args_kind (may_node hm hk).2.2.2).2.2.1
      have : ∀ bs : List Dep, (∀ b ∈ bs, nodes b + 1 ≤ 2 * leaves b) → nodesA bs + bs.length ≤ 2 * leavesA bs := by
        intro bs
        induction bs with
        | nil => intro _; simp [nodesA, leavesA]
        | cons b r ihr =>
          intro hb
          have h1 := hb b (by simp)
          have h3 := ihr fun x hx => hb x (by simp [hx])
          simp only [nodesA, leavesA, List.length_cons]
          omega
      have := this as_ fun a hx => ih a hx (forms_mem ha a hx)
      omega
theorem nodesA_append (a b : List Dep) : nodesA (a ++ b) = nodesA a + nodesA b := by
  induction a with
  | nil => simp [nodesA]
  | cons x r ih => simp only [List.cons_append, nodesA, ih]; omega
theorem nodesA_ge (a : List Dep) : a.length ≤ nodesA a := by
  induction a with
  | nil => simp [nodesA]
  | cons x r ih => have := nodes_pos x; simp only [nodesA, List.length_cons]; omega
theorem leavesA_append (a b : List Dep) : leavesA (a ++ b) = leavesA a + leavesA b := by
  induction a with
  | nil => simp [leavesA]
  | cons x r ih => simp only [List.cons_append, leavesA, ih]; omega
/-! Words of kinds and signs. -/
theorem numW_range (w : Wd) : numW w = 0 ∨ (2 ≤ numW w ∧ numW w ≤ 6) := by
  unfold numW
  repeat' split
  all_goals simp
theorem btw_cases {k : Int} {n : Nat} (h2 : 2 ≤ k) (h6 : k ≤ 6) : btw k n ∈ [wAnd, wOr, wIf, wElse, wWith, wWithout] := by
  unfold btw
  split
  · simp
  · have : k = 2 ∨ k = 3 ∨ k = 4 ∨ k = 5 ∨ k = 6 := by omega
    rcases this with rfl | rfl | rfl | rfl | rfl <;> simp [wordT]
theorem btw_ne {k : Int} {n : Nat} (h2 : 2 ≤ k) (h6 : k ≤ 6) : btw k n ≠ [41] ∧ btw k n ≠ [40] ∧ btw k n ≠ [] ∧ numS (btw k n) = 0 := by
  have := btw_cases (n := n) h2 h6
  simp only [List.mem_cons, List.not_mem_nil, or_false] at this
  rcases this with e | e | e | e | e | e <;> rw [e] <;> decide
theorem name_ne {l : Wd} (h : nameB l = true) : l ≠ [] ∧ l ≠ [40] ∧ l ≠ [41] ∧ l.length ≤ 60 ∧ l.head? ≠ some 40 ∧ scan 0 l = true ∧ numS l = 0 ∧ numW l = 0 := by
  unfold nameB at h
  simp only [Bool.and_eq_true, decide_eq_true_eq] at h
  obtain ⟨⟨⟨⟨⟨⟨h1, h2⟩, h3⟩, h4⟩, h5⟩, h6⟩, h7⟩ := h
  refine ⟨?_, ?_, ?_, h2, h3, h7, h6, h5⟩
  · rintro rfl; simp at h1
  · rintro rfl; simp at h3
  · rintro rfl; revert h7; decide
end Go.Proofs.YtdhgiammfpjniaaGreatDoor.Ev
namespace Go.Proofs.YtdhgiammfpjniaaGreatDoor.Ev
set_option linter.unusedSimpArgs false
set_option linter.unusedVariables false

/-! A text in words. -/
def scanEnd : Nat → Wd → Nat
  | _, [] => 0
  | o, c :: r => if c = 32 then 0 else if c = 41 ∧ o = 0 then 0 else 1 + scanEnd (if c = 40 then o + 1 else if c = 41 then o - 1 else o) r
def endN : Wd → Nat
  | [] => 0
  | c :: r => if c = 40 ∨ c = 41 then 1 else scanEnd 0 (c :: r)
def skipB (l : Wd) : Wd := l.dropWhile (· == 32)
def cutW (l : Wd) : Wd × Wd := ((skipB l).take (endN (skipB l)), (skipB l).drop (endN (skipB l)))
theorem scanEnd_le (o : Nat) (l : Wd) : scanEnd o l ≤ l.length := by
  induction l generalizing o with
  | nil => simp [scanEnd]
  | cons c r ih =>
    unfold scanEnd
    split
    · omega
    · split
      · omega
      · have := ih (if c = 40 then o + 1 else if c = 41 then o - 1 else o)
        simp only [List.length_cons]; omega
theorem endN_le (l : Wd) : endN l ≤ l.length := by
  cases l with
  | nil => simp [endN]
  | cons c r =>
    simp only [endN]
    split
    · simp
    · exact scanEnd_le 0 _
theorem skipB_le (l : Wd) : (skipB l).length ≤ l.length := by
  unfold skipB
  induction l with
  | nil => simp
  | cons c r ih => rw [List.dropWhile_cons]; split <;> simp <;> omega
theorem skipB_head (l : Wd) (c : UInt8) (r : Wd) (h : skipB l = c :: r) : c ≠ 32 := by
  unfold skipB at h
  induction l with
  | nil => cases h
  | cons b t ih =>
    rw [List.dropWhile_cons] at h
    split at h
    · exact ih h
    · rename_i hb
      injection h with h1 h2
      subst h1
      simpa using hb
theorem endN_pos (c : UInt8) (r : Wd) (h : c ≠ 32) : 1 ≤ endN (c :: r) := by
  simp only [endN]
  split
  · omega
  · rename_i hn
    simp only [scanEnd]
    rw [if_neg h, if_neg (fun e => hn (.inr e.1))]
    omega
theorem cutW_lt {l : Wd} (h : (cutW l).1 ≠ []) : (cutW l).2.length < l.length := by
  have h1 := skipB_le l
  unfold cutW at h ⊢
  simp only at h ⊢
  cases hs : skipB l with
  | nil => rw [hs] at h; simp at h
  | cons c r =>
    have := endN_pos c r (skipB_head l c r hs)
    rw [hs] at h1
    simp only [List.length_drop, List.length_cons] at h1 ⊢
    omega
theorem cutW_end {l : Wd} (h : (cutW l).1 = []) : (cutW l).2 = [] := by
  unfold cutW at h ⊢
  simp only at h ⊢
  cases hs : skipB l with
  | nil => rfl
  | cons c r =>
    have := endN_pos c r (skipB_head l c r hs)
    rw [hs] at h
    have h2 : ((c :: r).take (endN (c :: r))).length = 0 := by rw [h]; rfl
    rw [List.length_take] at h2
    simp only [List.length_cons] at h2
    omega
def words (l : Wd) : List Wd := if h : (cutW l).1 = [] then [] else (cutW l).1 :: words (cutW l).2
termination_by l.length
decreasing_by exact cutW_lt h
/-- The words that are left, behind a cut. -/
def stream (w r : Wd) : List Wd := if w = [] then [] else w :: words r
theorem stream_cut (l : Wd) : stream (cutW l).1 (cutW l).2 = words l := by
  unfold stream
  conv => rhs; unfold words
  by_cases h : (cutW l).1 = [] <;> simp [h]
theorem stream_nil (r : Wd) : stream [] r = [] := by simp [stream]
theorem stream_cons {w : Wd} (r : Wd) (h : w ≠ []) : stream w r = w :: words r := by simp [stream, h]
/-! The code's reading: what is open, innermost first: its kind, what it has. -/
def node (k : Int) (as_ : List Dep) : Dep := .mk k ⟨#[]⟩ 0 ⟨#[]⟩ as_
def leaf (w : Wd) (o : Int) (e : Wd) : Dep := .mk 1 (mkS w) o (mkS e) []
abbrev Stk := List (Int × List Dep)
/-- Ahead of a dependency (none), or behind one. -/
def run : Nat → Stk → Option Dep → List Wd → Option Dep
  | 0, _, _, _ => none
  | _ + 1, _, none, [] => none
  | f + 1, st, none, w :: r =>
    if w = [40] then run f ((0, []) :: st) none r
    else if nameB w = true then
      (match r with
        | [] => run f st (some (leaf w 0 [])) []
        | s :: r1 => if numS s = 0 then run f st (some (leaf w 0 [])) (s :: r1) else
          (match r1 with
            | [] => run f st (some (leaf w (numS s) [])) []
            | e :: r2 => run f st (some (leaf w (numS s) e)) r2))
    else none
  | _ + 1, [], some d, ws => if ws = [] then some d else none
  | f + 1, (k, p) :: st, some d, ws =>
    match ws with
    | [] => none
    | w :: r => if w = [41] then run f st (some (node k (p ++ [d]))) r else
      if (if k = 0 then numW w else k) ≠ 0 ∧ w = btw (if k = 0 then numW w else k) (p.length + 1) then run f ((if k = 0 then numW w else k, p ++ [d]) :: st) none r else none

/-- Enough fuel is enough. -/
theorem run_more {f : Nat} : ∀ {st : Stk} {x : Option Dep} {ws : List Wd}, 2 * ws.length + (if x.isSome then 1 else 2) ≤ f → run (f + 1) st x ws = run f st x ws := by
  induction f with
  | zero => intro st x ws h; cases x <;> simp at h <;> omega
  | succ f ih =>
    intro st x ws h
    cases x with
    | none =>
      cases ws with
      | nil => rfl
      | cons w r =>
        simp only [List.length_cons, Option.isSome_none, Bool.false_eq_true, if_false] at h
        unfold run
        split
        · exact ih (by simp; omega)
        · split
          · cases r with
            | nil => exact ih (by simp; omega)
            | cons s r1 =>
              simp only [List.length_cons] at h
              dsimp only
              split
              · exact ih (by simp; omega)
              · cases r1 with
                | nil => exact ih (by simp; omega)
                | cons e r2 => simp only [List.length_cons] at h; exact ih (by simp; omega)
          · rfl
    | some d =>
      cases st with
      | nil => rfl
      | cons t st =>
        obtain ⟨k, p⟩ := t
        cases ws with
        | nil => rfl
        | cons w r =>
          simp only [List.length_cons, Option.isSome_some, if_true] at h
          unfold run
          dsimp only
          generalize (if k = 0 then numW w else k) = k'
          split
          · exact ih (by simp; omega)
          · split
            · exact ih (by simp; omega)
            · rfl
theorem run_fuel {f g : Nat} {st : Stk} {x : Option Dep} {ws : List Wd} (h : 2 * ws.length + (if x.isSome then 1 else 2) ≤ f) (hg : f ≤ g) : run g st x ws = run f st x ws := by
  induction g with
  | zero => have : f = 0 := by omega
            subst this; rfl
  | succ g ih =>
    by_cases e : f = g + 1
    · subst e; rfl
    · rw [run_more (by omega), ih (by omega)]
/-- The reading, with enough fuel. -/
def readM (st : Stk) (x : Option Dep) (ws : List Wd) : Option Dep := run (2 * ws.length + 2) st x ws
theorem readM_run {f : Nat} {st : Stk} {x : Option Dep} {ws : List Wd} (h : 2 * ws.length + 2 ≤ f) : run f st x ws = readM st x ws := by
  unfold readM
  exact run_fuel (by split <;> omega) h
theorem readM_none_nil (st : Stk) : readM st none [] = none := rfl
theorem readM_open (st : Stk) (r : List Wd) : readM st none ([40] :: r) = readM ((0, []) :: st) none r := by
  conv => lhs; unfold readM run
  rw [if_pos rfl, readM_run (by simp; omega)]
theorem readM_bad (st : Stk) {w : Wd} (r : List Wd) (h1 : w ≠ [40]) (h2 : nameB w = false) : readM st none (w :: r) = none := by
  unfold readM run
  rw [if_neg h1, h2, if_neg (by simp)]
theorem readM_name (st : Stk) {w : Wd} (r : List Wd) (h : nameB w = true) (h2 : numS (r.headD []) = 0) : readM st none (w :: r) = readM st (some (leaf w 0 [])) r := by
  conv => lhs; unfold readM run
  rw [if_neg (name_ne h).2.1, if_pos h]
  cases r with
  | nil => exact readM_run (by simp)
  | cons s r1 =>
    dsimp only
    rw [if_pos (show numS s = 0 from h2)]
    exact readM_run (by simp; omega)
theorem readM_sign (st : Stk) {w s : Wd} (r : List Wd) (h : nameB w = true) (h2 : numS s ≠ 0) : readM st none (w :: s :: r) = readM st (some (leaf w (numS s) (r.headD []))) r.tail := by
  conv => lhs; unfold readM run
  rw [if_neg (name_ne h).2.1, if_pos h]
  dsimp only
  rw [if_neg h2]
  cases r with
  | nil => exact readM_run (by simp)
  | cons e r2 => exact readM_run (by simp; omega)
theorem readM_done (d : Dep) (ws : List Wd) : readM [] (some d) ws = if ws = [] then some d else none := by
  unfold readM run; rfl
theorem readM_lost (k : Int) (p : List Dep) (st : Stk) (d : Dep) : readM ((k, p) :: st) (some d) [] = none := rfl
theorem readM_close (k : Int) (p : List Dep) (st : Stk) (d : Dep) (r : List Wd) : readM ((k, p) :: st) (some d) ([41] :: r) = readM st (some (node k (p ++ [d]))) r := by
  conv => lhs; unfold readM run
  dsimp only
  rw [if_pos rfl, readM_run (by simp; omega)]
theorem readM_word {k k' : Int} (p : List Dep) (st : Stk) (d : Dep) {w : Wd} (r : List Wd) (h : w ≠ [41]) (hk : k' = if k = 0 then numW w else k) :
    readM ((k, p) :: st) (some d) (w :: r) = if k' ≠ 0 ∧ w = btw k' (p.length + 1) then readM ((k', p ++ [d]) :: st) none r else none := by
  subst hk
  conv => lhs; unfold readM run
  dsimp only
  generalize (if k = 0 then numW w else k) = k'
  rw [if_neg h]
  split
  · rw [readM_run (by simp; omega)]
  · rfl
end Go.Proofs.YtdhgiammfpjniaaGreatDoor.Ev
namespace Go.Proofs.YtdhgiammfpjniaaGreatDoor.Ev
set_option linter.unusedSimpArgs false
set_option linter.unusedVariables false

/-! Ahead: what may be is read from its words. -/
theorem empty_back {s : ByteArray} (h : s.data.toList = []) : s = ⟨#[]⟩ := by
  obtain ⟨⟨l⟩⟩ := s
  simp at h
  rw [h]
/-! Behind: what is read is its words. -/
mutual
/-- No comparison without a version. -/
def whole : Dep → Bool
  | .mk k _ o e as_ => (decide (k ≠ 1) || decide (o = 0) || decide (e.data.toList ≠ [])) && wholes as_
def wholes : List Dep → Bool
  | [] => true
  | a :: r => whole a && wholes r
end
end Go.Proofs.YtdhgiammfpjniaaGreatDoor.Ev
namespace Go.Proofs.YtdhgiammfpjniaaGreatDoor.Ev
set_option linter.unusedSimpArgs false
set_option linter.unusedVariables false

theorem words_nil : words [] = [] := by rw [← stream_cut]; rfl
/-! The document's reading. -/
end Go.Proofs.YtdhgiammfpjniaaGreatDoor.Ev
namespace Go.Proofs.YtdhgiammfpjniaaGreatDoor.Ev
set_option linter.unusedSimpArgs false
set_option linter.unusedVariables false

/-! Both readings of a text. -/
def parseD (l : Wd) : Option Dep × Int :=
  match readM [] none (words l) with
  | none => (none, 50)
  | some d => if checkN d = 0 then (some d, 0) else (none, checkN d)
theorem check_bad {d : Dep} (h : ¬ form d = true) : checkN d = 50 := by unfold checkN; rw [if_neg h]
end Go.Proofs.YtdhgiammfpjniaaGreatDoor.Ev

/- How a dependency lies in memory. -/
namespace Go.Proofs.YtdhgiammfpjniaaGreatDoor.Ev
set_option linter.unusedSimpArgs false
set_option linter.unusedVariables false
open Go.RowKit

/-- A dependency's five cells, s being where its arguments lie. -/
def rowD (d : Dep) (s : Value) : Array Value := #[.int .i64 d.kind, .string d.name, .int .i64 d.op, .string d.evr, s]
def CellsD (w : World) (b o : Nat) (d : Dep) (s : Value) : Prop :=
  w.cell? ⟨b, o, none⟩ = some (.int .i64 d.kind) ∧ w.cell? ⟨b, o + 1, none⟩ = some (.string d.name) ∧ w.cell? ⟨b, o + 2, none⟩ = some (.int .i64 d.op) ∧ w.cell? ⟨b, o + 3, none⟩ = some (.string d.evr) ∧ w.cell? ⟨b, o + 4, none⟩ = some s
mutual
/-- s is a slice of d's arguments, which lie in blocks of S, so all that is within them. -/
def Lay (w : World) (S : Nat → Prop) : Dep → Value → Prop
  | .mk _ _ _ _ ds, s => ∃ A c, s = .slice A ds.length c ∧ ds.length ≤ c ∧ (c ≤ maxLen ∧ (A = none → c = 0)) ∧ LayA w S ds A 0
def LayA (w : World) (S : Nat → Prop) : List Dep → Option Addr → Nat → Prop
  | [], _, _ => True
  | a :: r, A, i => (∃ b o s, A = some ⟨b, o, none⟩ ∧ S b ∧ CellsD w b (o + i * 5) a s ∧ Lay w S a s) ∧ LayA w S r A (i + 1)
end
/-- S's blocks are lists of dependencies, none of them marked. -/
def CleanS (w : World) (S : Nat → Prop) : Prop := ∀ b, S b → ∃ cs, Blk w b 39 cs
/-- What stands in S stays. -/
def StayS (S : Nat → Prop) (w w' : World) : Prop := ∀ b, S b → b < w.heap.size → w'.heap[b]? = w.heap[b]?

theorem CellsD.stay {w w' : World} {b o : Nat} {d : Dep} {s : Value} (h : CellsD w b o d s) (e : w'.heap[b]? = w.heap[b]?) : CellsD w' b o d s := by
  have k : ∀ i, w'.cell? ⟨b, i, none⟩ = w.cell? ⟨b, i, none⟩ := fun i => World.cell?_of_block e
  unfold CellsD at h ⊢
  rw [k, k, k, k, k]
  exact h
theorem CellsD.lt {w : World} {b o : Nat} {d : Dep} {s : Value} (h : CellsD w b o d s) : b < w.heap.size := cell_lt h.1
theorem layA_iff {w : World} {S : Nat → Prop} {ds : List Dep} {A : Option Addr} {i : Nat} : LayA w S ds A i ↔ ∀ j a, ds[j]? = some a → ∃ b o s, A = some ⟨b, o, none⟩ ∧ S b ∧ CellsD w b (o + (i + j) * 5) a s ∧ Lay w S a s := by
  induction ds generalizing i with
  | nil => simp [LayA]
  | cons a r ih =>
    simp only [LayA, ih]
    constructor
    · rintro ⟨h0, h⟩ j x hx
      cases j with
      | zero => simp at hx; subst hx; exact h0
      | succ j =>
        have := h j x (by simpa using hx)
        rwa [show i + 1 + j = i + (j + 1) by omega] at this
    · intro h
      refine ⟨by simpa using h 0 a rfl, fun j x hx => ?_⟩
      have := h (j + 1) x (by simpa using hx)
      rwa [show i + (j + 1) = i + 1 + j by omega] at this
theorem lay_iff {w : World} {S : Nat → Prop} {d : Dep} {s : Value} : Lay w S d s ↔ ∃ A c, s = .slice A d.args.length c ∧ d.args.length ≤ c ∧ (c ≤ maxLen ∧ (A = none → c = 0)) ∧ ∀ j a, d.args[j]? = some a → ∃ b o t, A = some ⟨b, o, none⟩ ∧ S b ∧ CellsD w b (o + j * 5) a t ∧ Lay w S a t := by
  obtain ⟨k, n, o, e, ds⟩ := d
  simp only [Lay, layA_iff, Dep.args, Nat.zero_add]
theorem Lay.stay {w w' : World} {S S' : Nat → Prop} (hS : ∀ b, S b → S' b) (hw : StayS S w w') (d : Dep) : ∀ s, Lay w S d s → Lay w' S' d s := by
  induction d using Dep.ind with
  | h k n o e ds ih =>
    intro s h
    rw [lay_iff] at h ⊢
    obtain ⟨A, c, h1, h2, h3, h4⟩ := h
    refine ⟨A, c, h1, h2, h3, fun j a ha => ?_⟩
    obtain ⟨b, p, t, e1, e2, e3, e4⟩ := h4 j a ha
    exact ⟨b, p, t, e1, hS b e2, e3.stay (hw b e2 e3.lt), ih a (List.mem_of_getElem? ha) t e4⟩
theorem CleanS.stay {w w' : World} {S : Nat → Prop} (h : CleanS w S) (hw : StayS S w w') : CleanS w' S := fun b hb => by
  obtain ⟨cs, hc⟩ := h b hb
  exact ⟨cs, (hw b hb hc.lt).trans hc⟩
theorem StayS.refl (S : Nat → Prop) (w : World) : StayS S w w := fun _ _ _ => rfl
theorem StayS.turned {S : Nat → Prop} {w w' : World} {F : List Nat} (ht : Turned F w w') (h : ∀ b, S b → b ∉ F) : StayS S w w' := fun b hb hl => ht.block b hl (h b hb)
theorem StayS.below {S : Nat → Prop} {w w' : World} {B : Nat} (hb : Below B w w') (h : ∀ b, S b → b < B) : StayS S w w' := fun b hs _ => hb.block b (h b hs)
theorem StayS.below' {S : Nat → Prop} {w w' : World} (hb : Below w.heap.size w w') : StayS S w w' := fun b _ hl => hb.block b hl
theorem StayS.trans {S : Nat → Prop} {w w' w'' : World} (h : StayS S w w') (k : StayS S w' w'') (hz : w.heap.size ≤ w'.heap.size) : StayS S w w'' := fun b hb hl => (k b hb (by omega)).trans (h b hb hl)
theorem Lay.form_ {w : World} {S : Nat → Prop} {d : Dep} {s : Value} (h : Lay w S d s) : ∃ A c, s = .slice A d.args.length c ∧ d.args.length ≤ c ∧ c ≤ maxLen := by
  rw [lay_iff] at h
  obtain ⟨A, c, h1, h2, h3, _⟩ := h
  exact ⟨A, c, h1, h2, h3.1⟩
theorem Lay.nil_ {w : World} {S : Nat → Prop} {d : Dep} {n c : Nat} (h : Lay w S d (.slice none n c)) : c = 0 ∧ n = 0 ∧ d.args = [] := by
  rw [lay_iff] at h
  obtain ⟨A, c', h1, h2, h3, _⟩ := h
  injection h1 with e1 e2 e3
  have := h3.2 e1.symm
  subst e3
  have h0 : d.args.length = 0 := by omega
  exact ⟨this, by omega, List.eq_nil_of_length_eq_zero h0⟩
/-- The arguments, one by one. -/
def ArgsAt (w : World) (S : Nat → Prop) (ds : List Dep) (A : Option Addr) : Prop := ∀ j a, ds[j]? = some a → ∃ b o t, A = some ⟨b, o, none⟩ ∧ S b ∧ CellsD w b (o + j * 5) a t ∧ Lay w S a t
theorem Lay.args_ {w : World} {S : Nat → Prop} {d : Dep} {s : Value} (h : Lay w S d s) : ∃ A c, s = .slice A d.args.length c ∧ d.args.length ≤ c ∧ c ≤ maxLen ∧ ArgsAt w S d.args A := by
  obtain ⟨A, c, h1, h2, h3, h4⟩ := lay_iff.1 h
  exact ⟨A, c, h1, h2, h3.1, h4⟩
theorem ArgsAt.stay {w w' : World} {S S' : Nat → Prop} {ds : List Dep} {A : Option Addr} (h : ArgsAt w S ds A) (hS : ∀ b, S b → S' b) (hw : StayS S w w') : ArgsAt w' S' ds A := fun j a ha => by
  obtain ⟨b, p, t, e1, e2, e3, e4⟩ := h j a ha
  exact ⟨b, p, t, e1, hS b e2, e3.stay (hw b e2 e3.lt), e4.stay hS hw⟩
theorem Lay.none_ (w : World) (S : Nat → Prop) (k : Int) (n : ByteArray) (o : Int) (e : ByteArray) : Lay w S (.mk k n o e []) (.slice none 0 0) := by
  rw [lay_iff]
  exact ⟨none, 0, rfl, Nat.le_refl _, ⟨by simp [maxLen], fun _ => rfl⟩, fun j a ha => by simp [Dep.args] at ha⟩

/-! Sizes. -/
mutual
/-- No text is too long. -/
def small : Dep → Prop
  | .mk _ n _ e ds => n.size ≤ 2147483648 ∧ e.size ≤ 2147483648 ∧ smalls ds
def smalls : List Dep → Prop
  | [] => True
  | a :: r => small a ∧ smalls r
end
theorem nodes_parts (d : Dep) : nodes d = 1 + nodesA d.args := by cases d; rfl
end Go.Proofs.YtdhgiammfpjniaaGreatDoor.Ev
