/- Parts of the proof. -/
import Derived.Test.YtdhgiammfpjniaaGreatDoorZrad
namespace Go.Proofs.YtdhgiammfpjniaaGreatDoor.Ev
set_option linter.unusedSimpArgs false
set_option linter.unusedVariables false
inductive Dep where
 | mk (kind : Int) (name : ByteArray) (op : Int) (evr : ByteArray) (args : List Dep) : Dep
namespace Dep
def kind : Dep → Int | .mk k _ _ _ _ => k
def name : Dep → ByteArray | .mk _ n _ _ _ => n
def op : Dep → Int | .mk _ _ o _ _ => o
def evr : Dep → ByteArray | .mk _ _ _ e _ => e
def args : Dep → List Dep | .mk _ _ _ _ a => a
theorem ind {P : Dep → Prop} (h : ∀ k n o e as_, (∀ a ∈ as_, P a) → P (.mk k n o e as_)) : ∀ d, P d := by
 intro d
 refine Dep.rec (motive_1 := P) (motive_2 := fun as_ => ∀ a ∈ as_, P a) (fun k n o e as_ ih => h k n o e as_ ih) (fun a ha => by cases ha) (fun a as_ h1 h2 x hx => ?_) d
 rcases List.mem_cons.1 hx with rfl | hx
 ·exact h1
 ·exact h2 x hx
end Dep
abbrev Wd := List UInt8
def wAnd : Wd := [97, 110, 100]
def wOr : Wd := [111, 114]
def wIf : Wd := [105, 102]
def wElse : Wd := [101, 108, 115, 101]
def wWith : Wd := [119, 105, 116, 104]
def aaQ1 : Wd := [119, 105, 116, 104, 111, 117, 116]
def numW (w : Wd) : Int := if w = wAnd then 2 else if w = wOr then 3 else if w = wIf then 4 else if w = wWith then 5 else if w = aaQ1 then 6 else 0
def numS (w : Wd) : Int := if w = [60] then 1 else if w = [61] then 2 else if w = [60, 61] then 3 else if w = [62] then 4 else if w = [60, 62] then 5 else if w = [62, 61] then 6 else if w = [60, 61, 62] then 7 else 0
def wordT (k : Int) : Wd := if k = 2 then wAnd else if k = 3 then wOr else if k = 4 then wIf else if k = 5 then wWith else if k = 6 then aaQ1 else []
def signT (o : Int) : Wd := if o = 1 then [60] else if o = 2 then [61] else if o = 3 then [60, 61] else if o = 4 then [62] else if o = 5 then [60, 62] else if o = 6 then [62, 61] else if o = 7 then [60, 61, 62] else []
def btw (k : Int) (n : Nat) : Wd := if k = 4 ∧ n = 2 then wElse else wordT k
def scan : Nat → Wd → Bool
 | o, [] => o == 0
 | o, c :: r => if c < 33 ∨ 126 < c then false else if c = 40 then scan (o + 1) r else if c = 41 then (if o = 0 then false else scan (o - 1) r) else scan o r
def nameB (l : Wd) : Bool := decide (1 ≤ l.length) && decide (l.length ≤ 60) && decide (l.head? ≠ some 40) && decide (l ≠ wElse) && decide (numW l = 0) && decide (numS l = 0) && scan 0 l
def evrB (l : Wd) : Bool := (parse l).isSome
def acQc (op : Int) (l : Wd) : Bool := if op = 0 then decide (l = []) else decide (0 ≤ op) && decide (op < 8) && evrB l
def single (d : Dep) : Bool := decide (d.kind = 1) || decide (d.kind = 5) || decide (d.kind = 6)
def abQ0 (k : Int) (as_ : List Dep) : Bool :=
 if k = 2 ∨ k = 3 then decide (2 ≤ as_.length) else if k = 4 then decide (as_.length = 2) || decide (as_.length = 3)
 else if k = 5 then decide (2 ≤ as_.length) && as_.all single else if k = 6 then decide (as_.length = 2) && as_.all single else false
def mayPart (d : Dep) : Bool :=
 if d.kind = 1 then nameB d.name.data.toList && acQc d.op d.evr.data.toList && decide (d.args.length = 0)
 else decide (d.name.data.toList = []) && decide (d.op = 0) && decide (d.evr.data.toList = []) && abQ0 d.kind d.args
mutual
def form : Dep → Bool
 | .mk k n o e as_ => mayPart (.mk k n o e as_) && forms as_
def forms : List Dep → Bool
 | [] => true
 | a :: r => form a && forms r
end
mutual
def abQd : Dep → Nat
 | .mk k _ _ _ as_ => if k = 1 then 1 else aaQv as_
def aaQv : List Dep → Nat
 | [] => 0
 | a :: r => abQd a + aaQv r
end
mutual
def nodes : Dep → Nat
 | .mk _ _ _ _ as_ => 1 + aaQk as_
def aaQk : List Dep → Nat
 | [] => 0
 | a :: r => nodes a + aaQk r
end
mutual
def depth : Dep → Nat
 | .mk k _ _ _ as_ => if k = 1 then 0 else 1 + agQc as_
def agQc : List Dep → Nat
 | [] => 0
 | a :: r => max (depth a) (agQc r)
end
mutual
def text : Dep → Wd
 | .mk k n o e as_ => if k = 1 then n.data.toList ++ (if o = 0 then [] else 32 :: signT o ++ 32 :: e.data.toList) else 40 :: texts k 0 as_ ++ [41]
def texts (k : Int) : Nat → List Dep → Wd
 | _, [] => []
 | i, a :: r => (if i = 0 then [] else 32 :: btw k i ++ [32]) ++ text a ++ texts k (i + 1) r
end
mutual
def toks : Dep → List Wd
 | .mk k n o e as_ => if k = 1 then n.data.toList :: (if o = 0 then [] else [signT o, e.data.toList]) else [40] :: toksA k 0 as_ ++ [[41]]
def toksA (k : Int) : Nat → List Dep → List Wd
 | _, [] => []
 | i, a :: r => (if i = 0 then [] else [btw k i]) ++ toks a ++ toksA k (i + 1) r
end
def checkN (d : Dep) : Int := if form d = true then (if 16 < abQd d then 51 else 0) else 50
theorem acQ0 {as_ : List Dep} (h : forms as_ = true) : ∀ a ∈ as_, form a = true := by
 induction as_ with
 | nil => intro a ha; cases ha
 | cons b r ih =>
   simp only [forms, Bool.and_eq_true] at h
   intro a ha
   rcases List.mem_cons.1 ha with rfl | ha
   ·exact h.1
   ·exact ih h.2 a ha
theorem forms_of {as_ : List Dep} (h : ∀ a ∈ as_, form a = true) : forms as_ = true := by
 induction as_ with
 | nil => rfl
 | cons b r ih =>
   simp only [forms, Bool.and_eq_true]
   exact ⟨h b (by simp), ih fun a ha => h a (by simp [ha])⟩
theorem aeQk {d : Dep} (h : form d = true) : mayPart d = true := by
 obtain ⟨k, n, o, e, as_⟩ := d
 simp only [form, Bool.and_eq_true] at h
 exact h.1
theorem aeQb {d : Dep} (h : form d = true) : forms d.args = true := by
 obtain ⟨k, n, o, e, as_⟩ := d
 simp only [form, Bool.and_eq_true] at h
 exact h.2
theorem aeQ3 {k o : Int} {n e : ByteArray} {as_ : List Dep} (h : mayPart (.mk k n o e as_) = true) (hk : k = 1) : nameB n.data.toList = true ∧ acQc o e.data.toList = true ∧ as_ = [] := by
 unfold mayPart at h
 rw [if_pos (show (Dep.mk k n o e as_).kind = 1 from hk)] at h
 simp only [Dep.kind, Dep.name, Dep.op, Dep.evr, Dep.args, Bool.and_eq_true] at h
 exact ⟨h.1.1, h.1.2, List.eq_nil_of_length_eq_zero (of_decide_eq_true h.2)⟩
theorem aeQi {k o : Int} {n e : ByteArray} {as_ : List Dep} (h : mayPart (.mk k n o e as_) = true) (hk : k ≠ 1) : n.data.toList = [] ∧ o = 0 ∧ e.data.toList = [] ∧ abQ0 k as_ = true := by
 unfold mayPart at h
 rw [if_neg (show ¬ (Dep.mk k n o e as_).kind = 1 from hk)] at h
 simp only [Dep.kind, Dep.name, Dep.op, Dep.evr, Dep.args, Bool.and_eq_true] at h
 exact ⟨of_decide_eq_true h.1.1.1, of_decide_eq_true h.1.1.2, of_decide_eq_true h.1.2, h.2⟩
theorem afQh {k : Int} {as_ : List Dep} (h : abQ0 k as_ = true) : 2 ≤ k ∧ k ≤ 6 ∧ 2 ≤ as_.length ∧ (k = 4 → as_.length ≤ 3) ∧ (k = 6 → as_.length = 2) := by
 unfold abQ0 at h
 split at h
 ·rename_i hk; simp at h; omega
 ·split at h
  ·simp at h; omega
  ·split at h
   ·simp at h; omega
   ·split at h
    ·simp at h; omega
    ·cases h
theorem akQy (d : Dep) : 1 ≤ nodes d := by cases d; simp only [nodes]; omega
theorem nodes_leaves (d : Dep) : form d = true → nodes d + 1 ≤ 2 * abQd d := by
 induction d using Dep.ind with
 | h k n o e as_ ih =>
   intro hf
   have hm := aeQk hf
   have ha := aeQb hf
   simp only [Dep.args] at ha
   simp only [nodes, abQd]
   by_cases hk : k = 1
   ·obtain ⟨_, _, rfl⟩ := aeQ3 hm hk
    simp [hk, aaQk]
   ·rw [if_neg hk]
    have h2 := (afQh (aeQi hm hk).2.2.2).2.2.1
    have : ∀ bs : List Dep, (∀ b ∈ bs, nodes b + 1 ≤ 2 * abQd b) → aaQk bs + bs.length ≤ 2 * aaQv bs := by
     intro bs
     induction bs with
     | nil => intro _; simp [aaQk, aaQv]
     | cons b r ihr =>
       intro hb
       have h1 := hb b (by simp)
       have h3 := ihr fun x hx => hb x (by simp [hx])
       simp only [aaQk, aaQv, List.length_cons]
       omega
    have := this as_ fun a hx => ih a hx (acQ0 ha a hx)
    omega
theorem abQm (a b : List Dep) : aaQk (a ++ b) = aaQk a + aaQk b := by
 induction a with
 | nil => simp [aaQk]
 | cons x r ih => simp only [List.cons_append, aaQk, ih]; omega
theorem abQ7 (a : List Dep) : a.length ≤ aaQk a := by
 induction a with
 | nil => simp [aaQk]
 | cons x r ih => have := akQy x; simp only [aaQk, List.length_cons]; omega
theorem acQ8 (a b : List Dep) : aaQv (a ++ b) = aaQv a + aaQv b := by
 induction a with
 | nil => simp [aaQv]
 | cons x r ih => simp only [List.cons_append, aaQv, ih]; omega
theorem akQw {k : Int} (h2 : 2 ≤ k) (h6 : k ≤ 6) : numW (wordT k) = k := by
 have : k = 2 ∨ k = 3 ∨ k = 4 ∨ k = 5 ∨ k = 6 := by omega
 rcases this with rfl | rfl | rfl | rfl | rfl <;> decide
theorem ajQ2 {w : Wd} (h : numW w ≠ 0) : wordT (numW w) = w := by
 unfold numW at h ⊢
 repeat' split
 all_goals first | (rename_i e; rw [e]; rfl) | skip
 all_goals simp_all
theorem afQw (w : Wd) : numW w = 0 ∨ (2 ≤ numW w ∧ numW w ≤ 6) := by
 unfold numW
 repeat' split
 all_goals simp
theorem akQa {w : Wd} (h : numS w ≠ 0) : signT (numS w) = w := by
 unfold numS at h ⊢
 repeat' split
 all_goals first | (rename_i e; rw [e]; rfl) | skip
 all_goals simp_all
theorem akQx {o : Int} (h1 : 1 ≤ o) (h7 : o ≤ 7) : numS (signT o) = o := by
 have : o = 1 ∨ o = 2 ∨ o = 3 ∨ o = 4 ∨ o = 5 ∨ o = 6 ∨ o = 7 := by omega
 rcases this with rfl | rfl | rfl | rfl | rfl | rfl | rfl <;> decide
theorem arQv {k : Int} {n : Nat} (h2 : 2 ≤ k) (h6 : k ≤ 6) : btw k n ∈ [wAnd, wOr, wIf, wElse, wWith, aaQ1] := by
 unfold btw
 split
 ·simp
 ·have : k = 2 ∨ k = 3 ∨ k = 4 ∨ k = 5 ∨ k = 6 := by omega
  rcases this with rfl | rfl | rfl | rfl | rfl <;> simp [wordT]
theorem anQ7 {k : Int} {n : Nat} (h2 : 2 ≤ k) (h6 : k ≤ 6) : btw k n ≠ [41] ∧ btw k n ≠ [40] ∧ btw k n ≠ [] ∧ numS (btw k n) = 0 := by
 have := arQv (n := n) h2 h6
 simp only [List.mem_cons, List.not_mem_nil, or_false] at this
 rcases this with e | e | e | e | e | e <;> rw [e] <;> decide
theorem arQu {k : Int} : btw k 1 = wordT k := by unfold btw; rw [if_neg (by omega)]
theorem adQo {l : Wd} (h : nameB l = true) : l ≠ [] ∧ l ≠ [40] ∧ l ≠ [41] ∧ l.length ≤ 60 ∧ l.head? ≠ some 40 ∧ scan 0 l = true ∧ numS l = 0 ∧ numW l = 0 := by
 unfold nameB at h
 simp only [Bool.and_eq_true, decide_eq_true_eq] at h
 obtain ⟨⟨⟨⟨⟨⟨h1, h2⟩, h3⟩, h4⟩, h5⟩, h6⟩, h7⟩ := h
 refine ⟨?_, ?_, ?_, h2, h3, h7, h6, h5⟩
 ·rintro rfl; simp at h1
 ·rintro rfl; simp at h3
 ·rintro rfl; revert h7; decide
end Go.Proofs.YtdhgiammfpjniaaGreatDoor.Ev
namespace Go.Proofs.YtdhgiammfpjniaaGreatDoor.Ev
set_option linter.unusedSimpArgs false
set_option linter.unusedVariables false
def aaQq : Nat → Wd → Nat
 | _, [] => 0
 | o, c :: r => if c = 32 then 0 else if c = 41 ∧ o = 0 then 0 else 1 + aaQq (if c = 40 then o + 1 else if c = 41 then o - 1 else o) r
def endN : Wd → Nat
 | [] => 0
 | c :: r => if c = 40 ∨ c = 41 then 1 else aaQq 0 (c :: r)
def skipB (l : Wd) : Wd := l.dropWhile (· == 32)
def cutW (l : Wd) : Wd × Wd := ((skipB l).take (endN (skipB l)), (skipB l).drop (endN (skipB l)))
theorem aoQm (o : Nat) (l : Wd) : aaQq o l ≤ l.length := by
 induction l generalizing o with
 | nil => simp [aaQq]
 | cons c r ih =>
   unfold aaQq
   split
   ·omega
   ·split
    ·omega
    ·have := ih (if c = 40 then o + 1 else if c = 41 then o - 1 else o)
     simp only [List.length_cons]; omega
theorem endN_le (l : Wd) : endN l ≤ l.length := by
 cases l with
 | nil => simp [endN]
 | cons c r =>
   simp only [endN]
   split
   ·simp
   ·exact aoQm 0 _
theorem agQj (l : Wd) : (skipB l).length ≤ l.length := by
 unfold skipB
 induction l with
 | nil => simp
 | cons c r ih => rw [List.dropWhile_cons]; split <;> simp <;> omega
theorem ahQ6 (l : Wd) (c : UInt8) (r : Wd) (h : skipB l = c :: r) : c ≠ 32 := by
 unfold skipB at h
 induction l with
 | nil => cases h
 | cons b t ih =>
   rw [List.dropWhile_cons] at h
   split at h
   ·exact ih h
   ·rename_i hb
    injection h with h1 h2
    subst h1
    simpa using hb
theorem ajQj (c : UInt8) (r : Wd) (h : c ≠ 32) : 1 ≤ endN (c :: r) := by
 simp only [endN]
 split
 ·omega
 ·rename_i hn
  simp only [aaQq]
  rw [if_neg h, if_neg (fun e => hn (.inr e.1))]
  omega
theorem arQp {l : Wd} (h : (cutW l).1 ≠ []) : (cutW l).2.length < l.length := by
 have h1 := agQj l
 unfold cutW at h ⊢
 simp only at h ⊢
 cases hs : skipB l with
 | nil => rw [hs] at h; simp at h
 | cons c r =>
   have := ajQj c r (ahQ6 l c r hs)
   rw [hs] at h1
   simp only [List.length_drop, List.length_cons] at h1 ⊢
   omega
theorem ajQn {l : Wd} (h : (cutW l).1 = []) : (cutW l).2 = [] := by
 unfold cutW at h ⊢
 simp only at h ⊢
 cases hs : skipB l with
 | nil => rfl
 | cons c r =>
   have := ajQj c r (ahQ6 l c r hs)
   rw [hs] at h
   have h2 : ((c :: r).take (endN (c :: r))).length = 0 := by rw [h]; rfl
   rw [List.length_take] at h2
   simp only [List.length_cons] at h2
   omega
def words (l : Wd) : List Wd := if h : (cutW l).1 = [] then [] else (cutW l).1 :: words (cutW l).2
termination_by l.length
decreasing_by exact arQp h
def abQt (w r : Wd) : List Wd := if w = [] then [] else w :: words r
theorem abQq (l : Wd) : abQt (cutW l).1 (cutW l).2 = words l := by
 unfold abQt
 conv => rhs; unfold words
 by_cases h : (cutW l).1 = [] <;> simp [h]
theorem adQb (r : Wd) : abQt [] r = [] := by simp [abQt]
theorem abQc {w : Wd} (r : Wd) (h : w ≠ []) : abQt w r = w :: words r := by simp [abQt, h]
def node (k : Int) (as_ : List Dep) : Dep := .mk k ⟨#[]⟩ 0 ⟨#[]⟩ as_
def leaf (w : Wd) (o : Int) (e : Wd) : Dep := .mk 1 (mkS w) o (mkS e) []
abbrev Stk := List (Int × List Dep)
def run : Nat → Stk → Option Dep → List Wd → Option Dep
 | 0, _, _, _ => none
 | _ + 1, _, none, [] => none
 | f + 1, st, none, w :: r =>
   if w = [40] then run f ((0, []) :: st) none r
   else if nameB w = true then
    (match r with
     | [] => run f st (some (leaf w 0 [])) []
     | s :: r1 => if numS s = 0 then run f st (some (leaf w 0 [])) (s :: r1) else
       (match r1 with
        | [] => run f st (some (leaf w (numS s) [])) []
        | e :: r2 => run f st (some (leaf w (numS s) e)) r2))
   else none
 | _ + 1, [], some d, ws => if ws = [] then some d else none
 | f + 1, (k, p) :: st, some d, ws =>
   match ws with
   | [] => none
   | w :: r => if w = [41] then run f st (some (node k (p ++ [d]))) r else
     if (if k = 0 then numW w else k) ≠ 0 ∧ w = btw (if k = 0 then numW w else k) (p.length + 1) then run f ((if k = 0 then numW w else k, p ++ [d]) :: st) none r else none
theorem run_more {f : Nat} : ∀ {st : Stk} {x : Option Dep} {ws : List Wd}, 2 * ws.length + (if x.isSome then 1 else 2) ≤ f → run (f + 1) st x ws = run f st x ws := by
 induction f with
 | zero => intro st x ws h; cases x <;> simp at h <;> omega
 | succ f ih =>
   intro st x ws h
   cases x with
   | none =>
     cases ws with
     | nil => rfl
     | cons w r =>
       simp only [List.length_cons, Option.isSome_none, Bool.false_eq_true, if_false] at h
       unfold run
       split
       ·exact ih (by simp; omega)
       ·split
        ·cases r with
         | nil => exact ih (by simp; omega)
         | cons s r1 =>
           simp only [List.length_cons] at h
           dsimp only
           split
           ·exact ih (by simp; omega)
           ·cases r1 with
            | nil => exact ih (by simp; omega)
            | cons e r2 => simp only [List.length_cons] at h; exact ih (by simp; omega)
        ·rfl
   | some d =>
     cases st with
     | nil => rfl
     | cons t st =>
       obtain ⟨k, p⟩ := t
       cases ws with
       | nil => rfl
       | cons w r =>
         simp only [List.length_cons, Option.isSome_some, if_true] at h
         unfold run
         dsimp only
         generalize (if k = 0 then numW w else k) = k'
         split
         ·exact ih (by simp; omega)
         ·split
          ·exact ih (by simp; omega)
          ·rfl
theorem run_fuel {f g : Nat} {st : Stk} {x : Option Dep} {ws : List Wd} (h : 2 * ws.length + (if x.isSome then 1 else 2) ≤ f) (hg : f ≤ g) : run g st x ws = run f st x ws := by
 induction g with
 | zero => have : f = 0 := by omega
           subst this; rfl
 | succ g ih =>
   by_cases e : f = g + 1
   ·subst e; rfl
   ·rw [run_more (by omega), ih (by omega)]
def readM (st : Stk) (x : Option Dep) (ws : List Wd) : Option Dep := run (2 * ws.length + 2) st x ws
theorem acQw {f : Nat} {st : Stk} {x : Option Dep} {ws : List Wd} (h : 2 * ws.length + 2 ≤ f) : run f st x ws = readM st x ws := by
 unfold readM
 exact run_fuel (by split <;> omega) h
theorem ahQ0 (st : Stk) : readM st none [] = none := rfl
theorem ahQ9 (st : Stk) (r : List Wd) : readM st none ([40] :: r) = readM ((0, []) :: st) none r := by
 conv => lhs; unfold readM run
 rw [if_pos rfl, acQw (by simp; omega)]
theorem aqQr (st : Stk) {w : Wd} (r : List Wd) (h1 : w ≠ [40]) (h2 : nameB w = false) : readM st none (w :: r) = none := by
 unfold readM run
 rw [if_neg h1, h2, if_neg (by simp)]
theorem aiQa (st : Stk) {w : Wd} (r : List Wd) (h : nameB w = true) (h2 : numS (r.headD []) = 0) : readM st none (w :: r) = readM st (some (leaf w 0 [])) r := by
 conv => lhs; unfold readM run
 rw [if_neg (adQo h).2.1, if_pos h]
 cases r with
 | nil => exact acQw (by simp)
 | cons s r1 =>
   dsimp only
   rw [if_pos (show numS s = 0 from h2)]
   exact acQw (by simp; omega)
theorem ahQ8 (st : Stk) {w s : Wd} (r : List Wd) (h : nameB w = true) (h2 : numS s ≠ 0) : readM st none (w :: s :: r) = readM st (some (leaf w (numS s) (r.headD []))) r.tail := by
 conv => lhs; unfold readM run
 rw [if_neg (adQo h).2.1, if_pos h]
 dsimp only
 rw [if_neg h2]
 cases r with
 | nil => exact acQw (by simp)
 | cons e r2 => exact acQw (by simp; omega)
theorem afQs (d : Dep) (ws : List Wd) : readM [] (some d) ws = if ws = [] then some d else none := by
 unfold readM run; rfl
theorem aiQb (k : Int) (p : List Dep) (st : Stk) (d : Dep) : readM ((k, p) :: st) (some d) [] = none := rfl
theorem ahQa (k : Int) (p : List Dep) (st : Stk) (d : Dep) (r : List Wd) : readM ((k, p) :: st) (some d) ([41] :: r) = readM st (some (node k (p ++ [d]))) r := by
 conv => lhs; unfold readM run
 dsimp only
 rw [if_pos rfl, acQw (by simp; omega)]
theorem afQr {k k' : Int} (p : List Dep) (st : Stk) (d : Dep) {w : Wd} (r : List Wd) (h : w ≠ [41]) (hk : k' = if k = 0 then numW w else k) :
 readM ((k, p) :: st) (some d) (w :: r) = if k' ≠ 0 ∧ w = btw k' (p.length + 1) then readM ((k', p ++ [d]) :: st) none r else none := by
 subst hk
 conv => lhs; unfold readM run
 dsimp only
 generalize (if k = 0 then numW w else k) = k'
 rw [if_neg h]
 split
 ·rw [acQw (by simp; omega)]
 ·rfl
end Go.Proofs.YtdhgiammfpjniaaGreatDoor.Ev
namespace Go.Proofs.YtdhgiammfpjniaaGreatDoor.Ev
set_option linter.unusedSimpArgs false
set_option linter.unusedVariables false
theorem acQr (k : Int) (i : Nat) (as_ : List Dep) (h : 0 < i) : toksA k i as_ = match as_ with | [] => [] | a :: r => btw k i :: (toks a ++ toksA k (i + 1) r) := by
 cases as_ with
 | nil => rfl
 | cons a r => simp only [toksA]; rw [if_neg (by omega)]; simp
theorem ajQc (s : ByteArray) : mkS s.data.toList = s := rfl
theorem acQh {k : Int} {i : Nat} (h2 : 2 ≤ k) (h6 : k ≤ 6) (hi : 0 < i) (r : List Dep) (ws : List Wd) : numS ((toksA k i r ++ [41] :: ws).headD []) = 0 := by
 rw [acQr k i r hi]
 cases r with
 | nil => rfl
 | cons a r => exact (anQ7 h2 h6).2.2.2
theorem abQi {s : ByteArray} (h : s.data.toList = []) : s = ⟨#[]⟩ := by
 obtain ⟨⟨l⟩⟩ := s
 simp at h
 rw [h]
theorem leaf_back {n e : ByteArray} {o : Int} (h : o = 0 → e.data.toList = []) : (if o = 0 then leaf n.data.toList 0 [] else leaf n.data.toList o e.data.toList) = Dep.mk 1 n o e [] := by
 unfold leaf
 split
 ·rename_i ho
  subst ho
  rw [ajQc, abQi (h rfl)]; rfl
 ·rw [ajQc, ajQc]
theorem acQk {o : Int} {l : Wd} (h : acQc o l = true) : (o = 0 ∧ l = []) ∨ (1 ≤ o ∧ o ≤ 7 ∧ evrB l = true) := by
 unfold acQc at h
 split at h
 ·exact .inl ⟨‹_›, of_decide_eq_true h⟩
 ·simp only [Bool.and_eq_true, decide_eq_true_eq] at h
  exact .inr ⟨by omega, by omega, h.2⟩
theorem aqQq {k : Int} (h2 : 2 ≤ k) (h6 : k ≤ 6) (ws : List Wd) (st : Stk) : ∀ (r : List Dep), (∀ a ∈ r, ∀ (ws : List Wd) (st : Stk), numS (ws.headD []) = 0 → readM st none (toks a ++ ws) = readM st (some a) ws) →
 ∀ (kk : Int) (p : List Dep) (d : Dep), (kk = k ∨ (kk = 0 ∧ p = [] ∧ r ≠ [])) → readM ((kk, p) :: st) (some d) (toksA k (p.length + 1) r ++ [41] :: ws) = readM st (some (node k (p ++ d :: r))) ws := by
 intro r
 induction r with
 | nil =>
   intro _ kk p d hk
   obtain rfl : kk = k := by
    rcases hk with h | h
    ·exact h
    ·exact absurd rfl h.2.2
   exact ahQa kk p st d ws
 | cons a r ih =>
   intro hr kk p d hk
   rw [acQr k _ _ (by omega)]
   simp only [List.cons_append, List.append_assoc]
   have hb := anQ7 (n := p.length + 1) h2 h6
   have hk' : k = if kk = 0 then numW (btw k (p.length + 1)) else kk := by
    split
    ·rcases hk with h | ⟨_, hp, _⟩
     ·omega
     ·subst hp
      show k = numW (btw k 1)
      rw [arQu, akQw h2 h6]
    ·rcases hk with h | h
     ·exact h.symm
     ·omega
   rw [afQr p st d _ hb.1 hk', if_pos ⟨by omega, rfl⟩]
   rw [hr a (by simp) _ _ (acQh h2 h6 (by omega) r ws)]
   have := ih (fun b hb => hr b (by simp [hb])) k (p ++ [d]) a (.inl rfl)
   simp only [List.length_append, List.length_cons, List.length_nil, List.append_assoc, List.cons_append, List.nil_append] at this
   exact this
theorem aqQh (d : Dep) : form d = true → ∀ (ws : List Wd) (st : Stk), numS (ws.headD []) = 0 → readM st none (toks d ++ ws) = readM st (some d) ws := by
 induction d using Dep.ind with
 | h k n o e as_ ih =>
   intro hf ws st hw
   have hm := aeQk hf
   have ha := aeQb hf
   simp only [Dep.args] at ha
   by_cases hk : k = 1
   ·obtain ⟨hn, hc, rfl⟩ := aeQ3 hm hk
    subst hk
    have lb := @leaf_back n e o (fun h => by rcases acQk hc with h' | h' <;> first | exact h'.2 | omega)
    simp only [toks, if_true]
    rcases acQk hc with ⟨ho, he⟩ | ⟨h1, h7, he⟩
    ·rw [if_pos ho] at lb ⊢
     rw [← lb]
     exact aiQa st ws hn hw
    ·rw [if_neg (by omega)] at lb ⊢
     simp only [List.cons_append, List.nil_append]
     have hs := akQx h1 h7
     rw [ahQ8 st _ hn (by rw [hs]; omega), hs, ← lb]
     rfl
   ·have hx := (aeQi hm hk).2.2.2
    obtain ⟨hnn, ho, he, _⟩ := aeQi hm hk
    have hy := afQh hx
    simp only [toks, if_neg hk, List.cons_append, List.append_assoc, List.nil_append]
    rw [ahQ9]
    cases as_ with
    | nil => simp at hy
    | cons a r =>
      have hr : r ≠ [] := by rintro rfl; simp at hy
      simp only [toksA, if_true, List.nil_append, List.append_assoc]
      rw [ih a (by simp) (acQ0 ha a (by simp)) _ _ (acQh (by omega) (by omega) (by omega) r ws)]
      have := aqQq (k := k) (by omega) (by omega) ws st r (fun b hb => ih b (by simp [hb]) (acQ0 ha b (by simp [hb]))) 0 [] a (.inr ⟨rfl, rfl, hr⟩)
      rw [show (0 : Nat) + 1 = ([] : List Dep).length + 1 from rfl, this]
      unfold node
      rw [ho, abQi hnn, abQi he]
      rfl
mutual
def whole : Dep → Bool
 | .mk k _ o e as_ => (decide (k ≠ 1) || decide (o = 0) || decide (e.data.toList ≠ [])) && adQa as_
def adQa : List Dep → Bool
 | [] => true
 | a :: r => whole a && adQa r
end
theorem aeQw (a b : List Dep) : adQa (a ++ b) = (adQa a && adQa b) := by
 induction a with
 | nil => simp [adQa]
 | cons x r ih => simp only [List.cons_append, adQa, ih, Bool.and_assoc]
theorem apQn (d : Dep) : form d = true → whole d = true := by
 induction d using Dep.ind with
 | h k n o e as_ ih =>
   intro hf
   have hm := aeQk hf
   have ha := aeQb hf
   simp only [Dep.args] at ha
   simp only [whole, Bool.and_eq_true]
   constructor
   ·by_cases hk : k = 1
    ·obtain ⟨hn, hc, _⟩ := aeQ3 hm hk
     rcases acQk hc with h | h
     ·simp [h.1]
     ·have : e.data.toList ≠ [] := by
       intro e0
       have := h.2.2
       rw [e0] at this
       revert this; decide
      simp [this]
    ·simp [hk]
   ·have : ∀ bs : List Dep, (∀ b ∈ bs, whole b = true) → adQa bs = true := by
     intro bs
     induction bs with
     | nil => intro _; rfl
     | cons b r ihr => intro h; simp only [adQa, Bool.and_eq_true]; exact ⟨h b (by simp), ihr fun x hx => h x (by simp [hx])⟩
    exact this as_ fun a hx => ih a hx (acQ0 ha a hx)
def toksC (k : Int) : Nat → List Dep → List Wd
 | _, [] => []
 | i, a :: r => toks a ++ [btw k (i + 1)] ++ toksC k (i + 1) r
theorem aoQh (k : Int) (i : Nat) (p : List Dep) (d : Dep) : toksC k i (p ++ [d]) = toksC k i p ++ toks d ++ [btw k (i + p.length + 1)] := by
 induction p generalizing i with
 | nil => simp [toksC]
 | cons a r ih => simp only [List.cons_append, toksC, ih (i + 1), List.length_cons, List.append_assoc, List.cons_append, List.nil_append]; rw [show i + 1 + r.length + 1 = i + (r.length + 1) + 1 by omega]
theorem alQ2 (k : Int) (i : Nat) (p : List Dep) (d : Dep) : (if i = 0 then [] else [btw k i]) ++ (toksC k i p ++ toks d) = toksA k i (p ++ [d]) := by
 induction p generalizing i with
 | nil => simp [toksC, toksA]
 | cons a r ih =>
   simp only [List.cons_append, toksC, toksA, ← ih (i + 1), List.append_assoc]
   rw [if_neg (show ¬ (i + 1 = 0) by omega)]
   simp
def openT : Stk → List Wd
 | [] => []
 | (k, p) :: st => openT st ++ [40] :: toksC k 0 p
def StOk : Stk → Prop
 | [] => True
 | (k, p) :: st => k ≠ 1 ∧ (k = 0 → p = []) ∧ StOk st
theorem aqQ2 {k : Int} (h : k ≠ 1) (p : List Dep) (d : Dep) : toks (node k (p ++ [d])) = [40] :: (toksC k 0 p ++ toks d) ++ [[41]] := by
 unfold node
 simp only [toks, if_neg h]
 rw [← alQ2 k 0 p d]
 rfl
def afQn (st : Stk) : Bool := st.all fun t => adQa t.2
theorem aoQz {f : Nat} : ∀ {st : Stk} {x : Option Dep} {ws : List Wd} {D : Dep}, StOk st → run f st x ws = some D → whole D = true →
 (match x with | none => toks D = openT st ++ ws ∧ afQn st = true | some d => afQn st = true ∧ whole d = true ∧ toks D = openT st ++ toks d ++ ws) := by
 induction f with
 | zero => intro st x ws D _ h; cases h
 | succ f ih =>
   intro st x ws D hst h hD
   cases x with
   | none =>
     cases ws with
     | nil => cases h
     | cons w r =>
       unfold run at h
       split at h
       ·rename_i hw
        subst hw
        have := ih (st := (0, []) :: st) ⟨by decide, fun _ => rfl, hst⟩ h hD
        dsimp only at this ⊢
        simp only [openT, toksC, afQn, List.all_cons, Bool.and_eq_true, List.append_assoc] at this ⊢
        exact ⟨this.1, this.2.2⟩
       ·split at h
        ·rename_i hw hn
         have leafW : ∀ o e, whole (leaf w o e) = (decide (o = 0) || decide (e ≠ [])) := fun o e => by
          unfold leaf
          by_cases he : e = [] <;> simp [whole, adQa, mkS, he]
         cases r with
         | nil =>
           have := ih hst h hD
           dsimp only at this ⊢
           refine ⟨?_, this.1⟩
           rw [this.2.2]
           simp [leaf, toks, mkS]
         | cons s r1 =>
           dsimp only at h
           split at h
           ·have := ih hst h hD
            dsimp only at this ⊢
            refine ⟨?_, this.1⟩
            rw [this.2.2]
            simp [leaf, toks, mkS]
           ·rename_i hs
            cases r1 with
            | nil =>
              have := ih hst h hD
              dsimp only at this
              have h2 := this.2.1
              rw [leafW] at h2
              simp [hs] at h2
            | cons e r2 =>
              have := ih hst h hD
              dsimp only at this ⊢
              refine ⟨?_, this.1⟩
              rw [this.2.2]
              simp [leaf, toks, mkS, hs, akQa hs]
        ·cases h
   | some d =>
     cases st with
     | nil =>
       unfold run at h
       split at h
       ·rename_i hw
        subst hw
        injection h with h
        subst h
        simp [openT, afQn, hD]
       ·cases h
     | cons t st =>
       obtain ⟨k, p⟩ := t
       obtain ⟨hk1, hk0, hst'⟩ := hst
       cases ws with
       | nil => cases h
       | cons w r =>
         unfold run at h
         dsimp only at h
         generalize hkk : (if k = 0 then numW w else k) = k' at h
         split at h
         ·rename_i hw
          subst hw
          have := ih hst' h hD
          dsimp only at this ⊢
          have h2 := this.2.1
          unfold node at h2
          simp only [whole, aeQw, adQa, Bool.and_eq_true] at h2
          refine ⟨by simp only [afQn, List.all_cons, Bool.and_eq_true]; exact ⟨h2.2.1, this.1⟩, h2.2.2.1, ?_⟩
          rw [this.2.2, aqQ2 hk1]
          simp [openT]
         ·rename_i hw
          split at h
          ·rename_i hc
           have hk' : k' ≠ 1 := by
            subst hkk
            split
            ·have := afQw w; omega
            ·exact hk1
           have := ih (st := (k', p ++ [d]) :: st) ⟨hk', fun h0 => absurd h0 hc.1, hst'⟩ h hD
           dsimp only at this ⊢
           simp only [afQn, List.all_cons, aeQw, adQa, Bool.and_eq_true] at this ⊢
           refine ⟨⟨this.2.1.1, this.2.2⟩, this.2.1.2.1, ?_⟩
           rw [this.1]
           simp only [openT, aoQh]
           have hkp : toksC k' 0 p = toksC k 0 p := by
            by_cases h0 : k = 0
            ·rw [hk0 h0]; rfl
            ·rw [if_neg h0] at hkk; rw [hkk]
           rw [hkp, hc.2]
           simp
          ·cases h
theorem agQ9 {ws : List Wd} {d : Dep} (hf : form d = true) : readM [] none ws = some d ↔ ws = toks d := by
 constructor
 ·intro h
  have := aoQz (st := []) trivial h (apQn d hf)
  dsimp only at this
  simpa [openT] using this.1.symm
 ·rintro rfl
  have := aqQh d hf [] [] rfl
  rw [List.append_nil] at this
  rw [this, afQs, if_pos rfl]
end Go.Proofs.YtdhgiammfpjniaaGreatDoor.Ev
namespace Go.Proofs.YtdhgiammfpjniaaGreatDoor.Ev
set_option linter.unusedSimpArgs false
set_option linter.unusedVariables false
theorem alQy (rest : Wd) : words (32 :: rest) = words rest := by
 rw [← abQq, ← abQq]
 have : cutW (32 :: rest) = cutW rest := by
  unfold cutW skipB
  rw [List.dropWhile_cons]
  rfl
 rw [this]
theorem aoQe (rest : Wd) : words (40 :: rest) = [40] :: words rest := by
 rw [← abQq]
 have : cutW (40 :: rest) = ([40], rest) := by
  unfold cutW skipB
  rw [List.dropWhile_cons]
  rfl
 rw [this]
 rfl
theorem alQx (rest : Wd) : words (41 :: rest) = [41] :: words rest := by
 rw [← abQq]
 have : cutW (41 :: rest) = ([41], rest) := by
  unfold cutW skipB
  rw [List.dropWhile_cons]
  rfl
 rw [this]
 rfl
theorem agQs : words [] = [] := by rw [← abQq]; rfl
def atW (l : List Wd) (n : Nat) : Wd := (l[n]?).getD []
def leafR (l : List Wd) (n : Nat) : Option (Dep × Nat) :=
 if nameB (atW l n) = true then (if numS (atW l (n + 1)) = 0 then some (leaf (atW l n) 0 [], n + 1) else some (leaf (atW l n) (numS (atW l (n + 1))) (atW l (n + 2)), n + 3)) else none
def loopR (rd : Nat → Option (Dep × Nat)) (l : List Wd) (k : Wd) : Nat → List Dep → Nat → Option (List Dep × Nat)
 | 0, as_, n => some (as_, n)
 | f + 1, as_, n => if atW l n = k then (if (k = wIf ∨ k = aaQ1) ∧ 1 < as_.length then none else match rd (n + 1) with | none => none | some (x, n') => loopR rd l k f (as_ ++ [x]) n') else some (as_, n)
def elseR (rd : Nat → Option (Dep × Nat)) (l : List Wd) (k : Wd) (as_ : List Dep) (n : Nat) : Option (List Dep × Nat) :=
 if k = wIf ∧ atW l n = wElse then (match rd (n + 1) with | none => none | some (x, n') => some (as_ ++ [x], n')) else some (as_, n)
def abQo (l : List Wd) (k : Wd) (as_ : List Dep) (n : Nat) : Option (Dep × Nat) := if atW l n = [41] then some (node (numW k) as_, n + 1) else none
def nodeR (rd : Nat → Option (Dep × Nat)) (l : List Wd) (n : Nat) : Option (Dep × Nat) :=
 match rd (n + 1) with
 | none => none
 | some (first, n1) => if numW (atW l n1) = 0 then none else
   match loopR rd l (atW l n1) (l.length + 1) [first] n1 with
   | none => none
   | some (as_, n2) => match elseR rd l (atW l n1) as_ n2 with
     | none => none
     | some (bs, n3) => abQo l (atW l n1) bs n3
def readR (l : List Wd) : Nat → Nat → Option (Dep × Nat)
 | 0, n => if atW l n = [40] then none else leafR l n
 | deep + 1, n => if atW l n = [40] then nodeR (readR l deep) l n else leafR l n
theorem acQq {l : List Wd} {n : Nat} (h : atW l n ≠ []) : n < l.length ∧ l.drop n = atW l n :: l.drop (n + 1) := by
 have hn : n < l.length := by
  rcases Nat.lt_or_ge n l.length with h' | h'
  ·exact h'
  ·exact absurd (by simp [atW, List.getElem?_eq_none h']) h
 refine ⟨hn, ?_⟩
 rw [List.drop_eq_getElem_cons hn]
 simp [atW, List.getElem?_eq_getElem hn]
theorem aeQd {l : List Wd} {n : Nat} {w : Wd} {r : List Wd} (h : l.drop n = w :: r) : atW l n = w ∧ l.drop (n + 1) = r := by
 have h1 : (l.drop n)[0]? = some w := by rw [h]; rfl
 rw [List.getElem?_drop] at h1
 refine ⟨by simp only [Nat.add_zero] at h1; simp [atW, h1], ?_⟩
 rw [← List.drop_drop, h]; rfl
theorem anQ8 (l : List Wd) (n : Nat) : atW l n = (l.drop n).headD [] := by
 rw [List.headD_eq_head?_getD, List.head?_drop]; rfl
def Sound (l : List Wd) (rd : Nat → Option (Dep × Nat)) : Prop := ∀ n d n', rd n = some (d, n') → n < n' ∧ (n' ≤ l.length → l.drop n = toks d ++ l.drop n')
theorem ahQi (l : List Wd) : Sound l (leafR l) := by
 intro n d n' h
 unfold leafR at h
 split at h
 ·rename_i hn
  have hw := (adQo hn).1
  obtain ⟨h1, h2⟩ := acQq hw
  split at h
  ·injection h with h; injection h with e1 e2
   subst e1; subst e2
   refine ⟨by omega, fun _ => ?_⟩
   rw [h2]; simp [leaf, toks, mkS]
  ·rename_i hs
   injection h with h; injection h with e1 e2
   subst e1; subst e2
   refine ⟨by omega, fun hle => ?_⟩
   have hs' : atW l (n + 1) ≠ [] := by intro e; rw [e] at hs; exact hs rfl
   obtain ⟨_, h3⟩ := acQq hs'
   have h4 : l.drop (n + 2) = atW l (n + 2) :: l.drop (n + 3) := by
    rw [List.drop_eq_getElem_cons (by omega)]
    simp [atW, List.getElem?_eq_getElem (show n + 2 < l.length by omega)]
   rw [h2, h3, h4]
   simp [leaf, toks, mkS, hs, akQa hs]
 ·cases h
theorem ahQ5 (k : Int) (i : Nat) (p : List Dep) (d : Dep) : toksA k i (p ++ [d]) = toksA k i p ++ ((if i + p.length = 0 then [] else [btw k (i + p.length)]) ++ toks d) := by
 induction p generalizing i with
 | nil => simp [toksA]
 | cons a r ih => simp only [List.cons_append, toksA, ih (i + 1), List.length_cons, List.append_assoc]; rw [show i + 1 + r.length = i + (r.length + 1) by omega]
theorem amQz {l : List Wd} {rd : Nat → Option (Dep × Nat)} (hs : Sound l rd) {k : Wd} (hk : numW k ≠ 0) : ∀ (f : Nat) (as_ : List Dep) (n : Nat) (bs : List Dep) (n2 : Nat), 1 ≤ as_.length → loopR rd l k f as_ n = some (bs, n2) →
 n ≤ n2 ∧ (n2 ≤ l.length → toksA (numW k) 0 as_ ++ l.drop n = toksA (numW k) 0 bs ++ l.drop n2) := by
 intro f
 induction f with
 | zero => intro as_ n bs n2 _ h; injection h with h; injection h with e1 e2; subst e1; subst e2; exact ⟨Nat.le_refl _, fun _ => rfl⟩
 | succ f ih =>
   intro as_ n bs n2 ha h
   unfold loopR at h
   split at h
   ·rename_i hat
    split at h
    ·cases h
    ·rename_i hc
     cases hr : rd (n + 1) with
     | none => rw [hr] at h; cases h
     | some q =>
       obtain ⟨x, n'⟩ := q
       rw [hr] at h
       dsimp only at h
       obtain ⟨g1, g2⟩ := hs _ _ _ hr
       obtain ⟨i1, i2⟩ := ih (as_ ++ [x]) n' bs n2 (by simp) h
       refine ⟨by omega, fun hle => ?_⟩
       rw [← i2 hle, ahQ5]
       have hk0 : atW l n ≠ [] := by rw [hat]; rintro rfl; exact hk rfl
       obtain ⟨_, h2⟩ := acQq hk0
       rw [h2, g2 (by omega), hat, if_neg (by omega)]
       have hb : btw (numW k) (0 + as_.length) = k := by
        unfold btw
        rw [if_neg, ajQ2 hk]
        rintro ⟨h4, hl⟩
        have : k = wIf := by rw [← ajQ2 hk, h4]; rfl
        exact hc ⟨.inl this, by omega⟩
       rw [hb]
       simp
   ·injection h with h; injection h with e1 e2; subst e1; subst e2; exact ⟨Nat.le_refl _, fun _ => rfl⟩
theorem aqQ7 {l : List Wd} {rd : Nat → Option (Dep × Nat)} {a : Dep} {n : Nat} {bs : List Dep} {n2 : Nat} {f : Nat} (hat : atW l n = wIf) (h : loopR rd l wIf (f + 1) [a] n = some (bs, n2)) : bs.length = 2 := by
 unfold loopR at h
 rw [if_pos hat, if_neg (by simp)] at h
 cases hr : rd (n + 1) with
 | none => rw [hr] at h; cases h
 | some q =>
   obtain ⟨x, n'⟩ := q
   rw [hr] at h
   dsimp only at h
   cases f with
   | zero => injection h with h; injection h with e1 e2; subst e1; rfl
   | succ f =>
     unfold loopR at h
     split at h
     ·rw [if_pos ⟨.inl rfl, by simp⟩] at h; cases h
     ·injection h with h; injection h with e1 e2; subst e1; rfl
theorem amQv {l : List Wd} {rd : Nat → Option (Dep × Nat)} (hs : Sound l rd) {n : Nat} {d : Dep} {n' : Nat} (hat : atW l n = [40]) (h : nodeR rd l n = some (d, n')) : n < n' ∧ (n' ≤ l.length → l.drop n = toks d ++ l.drop n') := by
 unfold nodeR at h
 cases hr : rd (n + 1) with
 | none => rw [hr] at h; cases h
 | some q =>
   obtain ⟨first, n1⟩ := q
   rw [hr] at h
   dsimp only at h
   split at h
   ·cases h
   ·rename_i hk
    obtain ⟨g1, g2⟩ := hs _ _ _ hr
    cases hl : loopR rd l (atW l n1) (l.length + 1) [first] n1 with
    | none => rw [hl] at h; cases h
    | some q =>
      obtain ⟨as_, n2⟩ := q
      rw [hl] at h
      dsimp only at h
      obtain ⟨l1, l2⟩ := amQz hs hk _ _ _ _ _ (by simp) hl
      cases he : elseR rd l (atW l n1) as_ n2 with
      | none => rw [he] at h; cases h
      | some q =>
        obtain ⟨bs, n3⟩ := q
        rw [he] at h
        dsimp only at h
        have e12 : n2 ≤ n3 ∧ (n3 ≤ l.length → toksA (numW (atW l n1)) 0 as_ ++ l.drop n2 = toksA (numW (atW l n1)) 0 bs ++ l.drop n3) := by
         unfold elseR at he
         split at he
         ·rename_i hi
          cases hx : rd (n2 + 1) with
          | none => rw [hx] at he; cases he
          | some q =>
            obtain ⟨x, n3'⟩ := q
            rw [hx] at he
            injection he with he; injection he with e1 e2; subst e1; subst e2
            obtain ⟨x1, x2⟩ := hs _ _ _ hx
            refine ⟨by omega, fun hle => ?_⟩
            have h2 := (acQq (l := l) (n := n2) (by rw [hi.2]; decide)).2
            have hlen : as_.length = 2 := by rw [hi.1] at hl; exact aqQ7 hi.1 hl
            rw [h2, x2 hle, hi.2, hi.1, ahQ5, if_neg (by omega), hlen]
            simp only [List.append_assoc, List.cons_append, List.nil_append]
            rfl
         ·injection he with he; injection he with e1 e2; subst e1; subst e2; exact ⟨Nat.le_refl _, fun _ => rfl⟩
        unfold abQo at h
        split at h
        ·rename_i hc
         injection h with h; injection h with e1 e2; subst e1; subst e2
         refine ⟨by omega, fun hle => ?_⟩
         have h3 := (acQq (l := l) (n := n3) (by rw [hc]; decide)).2
         have h4 := (acQq (l := l) (n := n) (by rw [hat]; decide)).2
         have s2 := l2 (by omega)
         have s3 := e12.2 (by omega)
         have s1 := g2 (by omega)
         have hk1 : numW (atW l n1) ≠ 1 := by have := afQw (atW l n1); omega
         rw [h4, hat, s1]
         unfold node
         simp only [toks, if_neg hk1]
         have t1 : toksA (numW (atW l n1)) 0 [first] = toks first := by simp [toksA]
         rw [t1] at s2
         rw [s2, s3, h3, hc]
         simp
        ·cases h
theorem agQ8 (l : List Wd) : ∀ deep, Sound l (readR l deep) := by
 intro deep
 induction deep with
 | zero =>
   intro n d n' h
   unfold readR at h
   split at h
   ·cases h
   ·exact ahQi l n d n' h
 | succ deep ih =>
   intro n d n' h
   unfold readR at h
   split at h
   ·exact amQv ih ‹_› h
   ·exact ahQi l n d n' h
end Go.Proofs.YtdhgiammfpjniaaGreatDoor.Ev
namespace Go.Proofs.YtdhgiammfpjniaaGreatDoor.Ev
set_option linter.unusedSimpArgs false
set_option linter.unusedVariables false
theorem apQt {as_ : List Dep} {n : Nat} (h : agQc as_ ≤ n) : ∀ a ∈ as_, depth a ≤ n := by
 induction as_ with
 | nil => intro a ha; cases ha
 | cons b r ih =>
   simp only [agQc] at h
   intro a ha
   rcases List.mem_cons.1 ha with rfl | ha
   ·omega
   ·exact ih (by omega) a ha
theorem apQs (d : Dep) : depth d ≤ (toks d).length := by
 induction d using Dep.ind with
 | h k n o e as_ ih =>
   simp only [depth, toks]
   split
   ·simp
   ·have : ∀ (bs : List Dep) (i : Nat), (∀ b ∈ bs, depth b ≤ (toks b).length) → agQc bs ≤ (toksA k i bs).length := by
     intro bs
     induction bs with
     | nil => intro i _; simp [agQc]
     | cons b r ihr =>
       intro i h
       have h1 := h b (by simp)
       have h2 := ihr (i + 1) fun x hx => h x (by simp [hx])
       simp only [agQc, toksA, List.length_append]
       omega
    have := this as_ 0 ih
    simp only [List.length_append, List.length_cons, List.length_nil]
    omega
theorem aiQu {k : Int} (h2 : 2 ≤ k) (h6 : k ≤ 6) : (wordT k = wIf ↔ k = 4) ∧ (wordT k = aaQ1 ↔ k = 6) ∧ wordT k ≠ [41] ∧ wordT k ≠ [] := by
 have : k = 2 ∨ k = 3 ∨ k = 4 ∨ k = 5 ∨ k = 6 := by omega
 rcases this with rfl | rfl | rfl | rfl | rfl <;> decide
def Compl (l : List Wd) (rd : Nat → Option (Dep × Nat)) (d : Dep) : Prop := ∀ n ws, l.drop n = toks d ++ ws → numS (ws.headD []) = 0 → rd n = some (d, n + (toks d).length)
theorem aeQc {l : List Wd} {n : Nat} {a b : List Wd} (h : l.drop n = a ++ b) : l.drop (n + a.length) = b := by
 rw [← List.drop_drop, h, List.drop_left]
theorem apQg {l : List Wd} {rd : Nat → Option (Dep × Nat)} {k : Int} (h2 : 2 ≤ k) (h6 : k ≤ 6) (h4 : k ≠ 4) (ws : List Wd) : ∀ (r p : List Dep) (n f : Nat), 1 ≤ p.length → r.length ≤ f → (k = 6 → p.length + r.length ≤ 2) →
 (∀ b ∈ r, Compl l rd b) → l.drop n = toksA k p.length r ++ [41] :: ws → loopR rd l (wordT k) f p n = some (p ++ r, n + (toksA k p.length r).length) := by
 intro r
 induction r with
 | nil =>
   intro p n f hp hf _ _ hd
   have hw := aiQu h2 h6
   have hat := (aeQd hd).1
   cases f with
   | zero => simp [loopR, toksA]
   | succ f =>
     unfold loopR
     rw [hat, if_neg (fun e => hw.2.2.1 e.symm)]
     simp [toksA]
 | cons b r ih =>
   intro p n f hp hf h62 hc hd
   have hw := aiQu h2 h6
   cases f with
   | zero => simp at hf
   | succ f =>
     rw [acQr k p.length (b :: r) (by omega)] at hd ⊢
     simp only [List.cons_append, List.append_assoc] at hd
     obtain ⟨hat, hd1⟩ := aeQd hd
     have hb : btw k p.length = wordT k := by unfold btw; rw [if_neg (fun e => h4 e.1)]
     rw [hb] at hat
     unfold loopR
     rw [if_pos hat, if_neg (fun e => by
      rcases e.1 with e1 | e1
      ·exact h4 (hw.1.1 e1)
      ·have := h62 (hw.2.1.1 e1)
       simp at this; omega)]
     rw [hc b (by simp) _ _ hd1 (acQh h2 h6 (by omega) r ws)]
     dsimp only
     have hd2 := aeQc hd1
     have := ih (p ++ [b]) (n + 1 + (toks b).length) f (by simp) (by simpa using hf) (fun h => by have := h62 h; simp only [List.length_append, List.length_cons, List.length_nil] at this ⊢; omega) (fun x hx => hc x (by simp [hx])) (by simpa using hd2)
     rw [this]
     simp only [List.append_assoc, List.cons_append, List.nil_append, List.length_append, List.length_cons, List.length_nil, Nat.zero_add]
     congr 2
     omega
theorem aoQ3 (l : List Wd) (d : Dep) : form d = true → ∀ deep, depth d ≤ deep → Compl l (readR l deep) d := by
 induction d using Dep.ind with
 | h k n0 o e as_ ih =>
   intro hf deep hdp n ws hd hw
   have hm := aeQk hf
   have ha := aeQb hf
   simp only [Dep.args] at ha
   by_cases hk : k = 1
   ·obtain ⟨hn, hc, rfl⟩ := aeQ3 hm hk
    subst hk
    have lb := @leaf_back n0 e o (fun h => by rcases acQk hc with h' | h' <;> first | exact h'.2 | omega)
    have hne := adQo hn
    simp only [toks, if_true, List.cons_append] at hd ⊢
    obtain ⟨hat, hd1⟩ := aeQd hd
    have hr : readR l deep n = leafR l n := by
     cases deep <;> (unfold readR; rw [hat, if_neg hne.2.1])
    rw [hr]
    unfold leafR
    rw [hat, if_pos hn]
    rcases acQk hc with ⟨ho, he⟩ | ⟨h1, h7, he⟩
    ·rw [if_pos ho] at lb hd1 ⊢
     have : atW l (n + 1) = ws.headD [] := by rw [anQ8, hd1]; rfl
     rw [this, if_pos hw, lb]
     rfl
    ·rw [if_neg (show ¬ o = 0 by omega)] at lb hd1 ⊢
     simp only [List.cons_append, List.nil_append] at hd1
     obtain ⟨ha1, hd2⟩ := aeQd hd1
     obtain ⟨ha2, hd3⟩ := aeQd hd2
     have hs := akQx h1 h7
     rw [ha1, hs, if_neg (by omega), show n + 2 = n + 1 + 1 from rfl, ha2, lb]
     rfl
   ·have hx := (aeQi hm hk).2.2.2
    obtain ⟨hnn, ho, he, _⟩ := aeQi hm hk
    have hy := afQh hx
    have h2 : 2 ≤ k := hy.1
    have h6 : k ≤ 6 := hy.2.1
    simp only [depth, if_neg hk] at hdp
    cases deep with
    | zero => omega
    | succ deep =>
      have hC : ∀ b ∈ as_, Compl l (readR l deep) b := fun b hb => ih b hb (acQ0 ha b hb) deep (apQt (show agQc as_ ≤ deep by omega) b hb)
      have hnode : node k as_ = .mk k n0 o e as_ := by unfold node; rw [ho, abQi hnn, abQi he]
      rw [← hnode]
      have htk : toks (Dep.mk k n0 o e as_) = [40] :: (toksA k 0 as_ ++ [[41]]) := by simp only [toks, if_neg hk, List.cons_append]
      have htk' : toks (node k as_) = [40] :: (toksA k 0 as_ ++ [[41]]) := by rw [hnode, htk]
      rw [htk] at hd
      rw [htk']
      simp only [List.cons_append, List.append_assoc, List.nil_append] at hd
      obtain ⟨hat, hd1⟩ := aeQd hd
      unfold readR
      rw [if_pos hat]
      match as_, hx, hy, hC, hd1 with
      | a :: b :: r, hx, hy, hC, hd1 =>
        have hw' := aiQu h2 h6
        simp only [toksA, if_true, List.nil_append, List.append_assoc] at hd1
        have hd1' : l.drop (n + 1) = toks a ++ (toksA k 1 (b :: r) ++ [41] :: ws) := by simp only [toksA, List.append_assoc]; simpa using hd1
        have hA := hC a (by simp) _ _ hd1' (acQh h2 h6 (by omega) (b :: r) ws)
        have hd2 := aeQc hd1'
        have hd2' := hd2
        rw [acQr k 1 (b :: r) (by omega)] at hd2'
        simp only [List.cons_append, List.append_assoc] at hd2'
        obtain ⟨hat2, hd3⟩ := aeQd hd2'
        rw [arQu] at hat2
        unfold nodeR
        rw [hA]
        dsimp only
        have hnw : numW (wordT k) = k := akQw h2 h6
        rw [hat2, hnw, if_neg (by omega)]
        by_cases h4 : k = 4
        ·-- if, perhaps else
         have hB := hC b (by simp) _ _ hd3 (acQh h2 h6 (by omega) r ws)
         have hd4 := aeQc hd3
         have e4 : wordT k = wIf := hw'.1.2 h4
         rw [e4]
         rw [e4] at hat2
         have hlp : loopR (readR l deep) l wIf (l.length + 1) [a] (n + 1 + (toks a).length) = some ([a, b], n + 1 + (toks a).length + 1 + (toks b).length) := by
          unfold loopR
          rw [if_pos hat2, if_neg (by simp), hB]
          dsimp only
          have hnx : atW l (n + 1 + (toks a).length + 1 + (toks b).length) ≠ wIf := by
           rw [anQ8, hd4]
           cases r with
           | nil => show [41] ≠ wIf; decide
           | cons c r =>
             rw [acQr k _ _ (by omega), h4]
             show wElse ≠ wIf
             decide
          cases hL : l.length with
          | zero => rfl
          | succ m => unfold loopR; rw [if_neg hnx]; rfl
         rw [hlp]
         dsimp only
         unfold elseR
         cases r with
         | nil =>
           have hat3 := (aeQd hd4).1
           rw [if_neg (fun e => by rw [hat3] at e; exact absurd e.2 (by decide))]
           dsimp only
           unfold abQo
           rw [hat3, if_pos rfl]
           subst h4
           simp only [toksA, List.length_append, List.length_cons, List.length_nil, if_true, if_neg (show ¬ (0 + 1 = 0) by omega)]
           congr 2
           omega
         | cons c r =>
           have hr0 : r = [] := by
            have := hy.2.2.2.1 h4
            simp at this
            exact this
           subst hr0
           have hd5 := hd4
           rw [acQr k _ _ (by omega)] at hd5
           simp only [List.cons_append, List.append_assoc] at hd5
           obtain ⟨hat3, hd6⟩ := aeQd hd5
           have hE : btw k (1 + 1) = wElse := by subst h4; rfl
           rw [hE] at hat3
           have hCC := hC c (by simp) _ _ hd6 (acQh h2 h6 (by omega) [] ws)
           have hd7 := aeQc hd6
           rw [if_pos ⟨rfl, hat3⟩, hCC]
           dsimp only
           have hat4 := (aeQd hd7).1
           unfold abQo
           rw [hat4, if_pos rfl]
           subst h4
           simp only [toksA, List.length_append, List.length_cons, List.length_nil, if_true, if_neg (show ¬ (0 + 1 = 0) by omega), if_neg (show ¬ (0 + 1 + 1 = 0) by omega), List.cons_append, List.nil_append]
           congr 2
           omega
        ·have hlp := apQg h2 h6 h4 ws (b :: r) [a] (n + 1 + (toks a).length) (l.length + 1) (by simp) (by
          have : (b :: r).length ≤ (toksA k 1 (b :: r)).length := by
           have : ∀ (bs : List Dep) i, bs.length ≤ (toksA k i bs).length := by
            intro bs
            induction bs with
            | nil => intro i; simp
            | cons x t iht =>
              intro i
              have h1 := iht (i + 1)
              have h3 : 1 ≤ (toks x).length := by cases x; simp only [toks]; split <;> simp
              simp only [toksA, List.length_append, List.length_cons]
              omega
           exact this _ _
          have hl := congrArg List.length hd2
          simp only [List.length_drop, List.length_append, List.length_cons] at hl this ⊢
          omega) (fun h => by have := hy.2.2.2.2 h; simp only [List.length_cons, List.length_nil] at this ⊢; omega) (fun x hx => hC x (by simp at hx ⊢; exact .inr hx)) hd2
         rw [hlp]
         dsimp only
         unfold elseR
         rw [if_neg (fun e => h4 (hw'.1.1 e.1))]
         dsimp only
         have hd3 := aeQc hd2
         have hat3 := (aeQd hd3).1
         unfold abQo
         rw [show n + 1 + (toks a).length + (toksA k [a].length (b :: r)).length = n + 1 + (toks a).length + (toksA k 1 (b :: r)).length from rfl, hat3, if_pos rfl, hnw]
         simp only [List.cons_append, List.nil_append, toksA, List.length_append, List.length_cons, List.length_nil, if_true, Nat.zero_add]
         congr 2
         omega
def parseD (l : Wd) : Option Dep × Int :=
 match readM [] none (words l) with
 | none => (none, 50)
 | some d => if checkN d = 0 then (some d, 0) else (none, checkN d)
def aeQ0 (l : Wd) : Option Dep × Int :=
 match readR (words l) (words l).length 0 with
 | none => (none, 50)
 | some (d, n) => if n ≠ (words l).length then (none, 50) else if checkN d = 0 then (some d, 0) else (none, checkN d)
theorem afQe {d : Dep} (h : ¬ form d = true) : checkN d = 50 := by unfold checkN; rw [if_neg h]
theorem ref_toks {d : Dep} (hf : form d = true) {ws : List Wd} (h : ws = toks d) : readR ws ws.length 0 = some (d, ws.length) := by
 have := aoQ3 ws d hf ws.length (by rw [h]; exact apQs d) 0 [] (by simp [h]) rfl
 rw [this, h]; simp
theorem anQc {d : Dep} {ws : List Wd} (h : readR ws ws.length 0 = some (d, ws.length)) : ws = toks d := by
 have := (agQ8 ws ws.length 0 d ws.length h).2 (Nat.le_refl _)
 simpa using this
theorem ref_parse (l : Wd) : aeQ0 l = parseD l := by
 unfold aeQ0 parseD
 generalize words l = ws
 cases hm : readM [] none ws with
 | some d =>
   dsimp only
   by_cases hf : form d = true
   ·rw [ref_toks hf ((agQ9 hf).1 hm)]
    simp
   ·rw [afQe hf, if_neg (by decide)]
    cases hr : readR ws ws.length 0 with
    | none => rfl
    | some q =>
      obtain ⟨d', n⟩ := q
      dsimp only
      by_cases hn : n = ws.length
      ·subst hn
       by_cases hf' : form d' = true
       ·have := (agQ9 hf').2 (anQc hr)
        rw [hm] at this
        injection this with this
        exact absurd (this ▸ hf') hf
       ·rw [afQe hf']; simp
      ·rw [if_pos hn]
 | none =>
   dsimp only
   cases hr : readR ws ws.length 0 with
   | none => rfl
   | some q =>
     obtain ⟨d', n⟩ := q
     dsimp only
     by_cases hn : n = ws.length
     ·subst hn
      by_cases hf' : form d' = true
      ·have := (agQ9 hf').2 (anQc hr)
       rw [hm] at this
       cases this
      ·rw [afQe hf']; simp
     ·rw [if_pos hn]
end Go.Proofs.YtdhgiammfpjniaaGreatDoor.Ev
