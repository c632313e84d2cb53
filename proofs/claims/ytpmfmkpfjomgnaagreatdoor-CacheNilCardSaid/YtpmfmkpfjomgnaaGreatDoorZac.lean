/- Words for objects in memory: blocks known whole, what a call may turn, rows and maps of an object's own. What a law's arguments are, and how a walk that turns nothing of what was there proves the law. How a dependency lies in memory. The kinds of bytes, and how many stand at a text's beginning. The first of two numbers that is not nought: cmp.Or. What a text goes on with: rpmRank, debRank, and the closures that tell it of two texts. A region that draws its order, in which a cell is loaded ahead of a store to it: what holds of the cells hangs on which stores have come up. -/
import Derived.Test.YtpmfmkpfjomgnaaGreatDoorRows
import Derived.WalkKit
import Derived.WalkSpells
import Derived.WalkLawsBesides
import Derived.Lib.Hide
import Derived.Deep.Light
import Derived.Deep.Draws
import Derived.Maps.OwnSet
import Derived.Maps.AppendAt
import Derived.Deep.QuietTactic
import Derived.BigQuiet
import Derived.Deep.RegionLaw
import Derived.StillTailTactics
import Derived.ProofKit
import Derived.OpenShut
import Derived.ShutString
import Derived.ChangeOld
import Derived.SizedLaws
import Derived.JoinedCond
import Derived.SliceStrings
import Derived.Laws.IdiomArrays
import Derived.Deep.Slices
import Derived.Deep.Fields
import Derived.Test.YtpmfmkpfjomgnaaGreatDoorZab
import Derived.Test.YtpmfmkpfjomgnaaGreatDoorZaa
import Derived.Deep.RegionHeld
import Derived.StillTail
/- Words for objects in memory: blocks known whole, what a call may turn, rows and maps of an object's own. -/
namespace Go.Proofs.YtpmfmkpfjomgnaaGreatDoor
set_option linter.unusedSimpArgs false
set_option linter.unusedVariables false
open Go.RowKit

/-- Block g is just these cells, of element type t, none of them frozen. -/
def Blk (w : World) (g : Nat) (t : TypeId) (cs : Array Value) : Prop := w.heap[g]? = some (.cells cs t (0, 0))

/-- Of what was there, nothing has turned but the blocks of F. -/
structure Turned (F : List Nat) (w w' : World) : Prop where
  os : w'.os = w.os
  tape : w'.tape = w.tape
  output : w'.output = w.output
  size : w.heap.size ≤ w'.heap.size
  block : ∀ k, k < w.heap.size → k ∉ F → w'.heap[k]? = w.heap[k]?

/-- The blocks of F' are blocks of F, or new ones. -/
def Fresh (w : World) (F F' : List Nat) : Prop := ∀ k, k ∈ F' → k ∈ F ∨ w.heap.size ≤ k

/-- Two objects share no block. -/
def Apart (F G : List Nat) : Prop := ∀ k, k ∈ F → k ∉ G

section
variable {w w' w'' : World} {F G F' G' : List Nat}
theorem Turned.refl (F : List Nat) (w : World) : Turned F w w := ⟨rfl, rfl, rfl, Nat.le_refl _, fun _ _ _ => rfl⟩
theorem Turned.trans (h : Turned F w w') (k : Turned F' w' w'') (hf : Fresh w F F') : Turned F w w'' :=
  ⟨k.os.trans h.os, k.tape.trans h.tape, k.output.trans h.output, Nat.le_trans h.size k.size, fun i hi hn =>
    (k.block i (Nat.lt_of_lt_of_le hi h.size) (fun hm => by rcases hf i hm with h1 | h1 <;> first | exact hn h1 | omega)).trans (h.block i hi hn)⟩
theorem Turned.more (h : Turned F w w') (hf : ∀ k, k ∈ F → k ∈ F') : Turned F' w w' := ⟨h.os, h.tape, h.output, h.size, fun k hk hn => h.block k hk (fun hm => hn (hf k hm))⟩
theorem Turned.drew (h : Turned F w w') : Turned F w w'.drew := ⟨h.os, h.tape, h.output, h.size, h.block⟩
theorem Turned.drewN (h : Turned F w w') (n : Nat) : Turned F w (w'.drewN n) := ⟨h.os, h.tape, h.output, h.size, h.block⟩
theorem Turned.from_drewN {n : Nat} (h : Turned F (w.drewN n) w') : Turned F w w' := ⟨h.os, h.tape, h.output, h.size, h.block⟩
theorem Turned.alloc (h : Turned F w w') (o : Obj) : Turned F w (w'.alloc o) :=
  ⟨h.os, h.tape, h.output, Nat.le_trans h.size (by simp), fun i hi hn => (Below.heap_alloc w' o i (Nat.lt_of_lt_of_le hi h.size)).trans (h.block i hi hn)⟩
theorem Turned.setCell (h : Turned F w w') {p : Addr} (hp : p.block ∈ F ∨ w.heap.size ≤ p.block) (u : Value) : Turned F w (w'.setCell p u) :=
  ⟨h.os, h.tape, h.output, by simpa [World.setCell] using h.size, fun i hi hn => (Below.heap_setCell w' p u i (by
    rintro rfl
    rcases hp with hp | hp
    · exact hn hp
    · omega)).trans (h.block i hi hn)⟩
theorem Turned.grown {row : Option Nat} (h : Turned F w w') (hg : w'.grownBy w'' row) (hr : ∀ k, row = some k → k ∈ F ∨ w.heap.size ≤ k) : Turned F w w'' :=
  ⟨hg.os.trans h.os, hg.tape.trans h.tape, hg.output.trans h.output, Nat.le_trans h.size hg.size, fun i hi hn =>
    (hg.block i (Nat.lt_of_lt_of_le hi h.size) (fun e => by rcases hr i e.symm with h1 | h1 <;> first | exact hn h1 | omega)).trans (h.block i hi hn)⟩
theorem Turned.below_ (h : Turned F w w') (hb : Below w'.heap.size w' w'') : Turned F w w'' :=
  ⟨hb.os.trans h.os, hb.tape.trans h.tape, hb.output.trans h.output, Nat.le_trans h.size hb.size, fun i hi hn => (hb.block i (Nat.lt_of_lt_of_le hi h.size)).trans (h.block i hi hn)⟩
theorem Turned.below (h : Turned F w w') {B : Nat} (hF : ∀ k, k ∈ F → B ≤ k) (hB : B ≤ w.heap.size) : Below B w w' :=
  ⟨h.os, h.tape, h.output, h.size, fun k hk => h.block k (by omega) (fun hm => by have := hF k hm; omega)⟩
theorem Turned.of_below (hb : Below w.heap.size w w') (F : List Nat) : Turned F w w' := ⟨hb.os, hb.tape, hb.output, hb.size, fun k hk _ => hb.block k hk⟩
theorem Turned.of_nil (h : Turned [] w w') : Below w.heap.size w w' := h.below (fun k hk => by cases hk) (Nat.le_refl _)
theorem Turned.grownBy (h : Turned F w w') {row : Option Nat} (hF : ∀ k, k ∈ F → some k = row) : w.grownBy w' row := ⟨h.os, h.tape, h.output, h.size, fun k hk hn => h.block k hk (fun hm => hn (hF k hm))⟩

theorem Fresh.refl (w : World) (F : List Nat) : Fresh w F F := fun _ h => .inl h
theorem Fresh.trans (h : Fresh w F F') (ht : w.heap.size ≤ w'.heap.size) (k : Fresh w' F' G) : Fresh w F G := fun i hi => by
  rcases k i hi with h1 | h1
  · exact h i h1
  · exact .inr (by omega)
theorem Fresh.apart (h : Fresh w F F') (ha : Apart F G) (hg : ∀ k, k ∈ G → k < w.heap.size) : Apart F' G := fun k hk hkg => by
  rcases h k hk with h1 | h1
  · exact ha k h1 hkg
  · have := hg k hkg; omega
theorem Apart.symm (h : Apart F G) : Apart G F := fun k hk hf => h k hf hk
theorem Apart.new (hF : ∀ k, k ∈ F → w.heap.size ≤ k) (hG : ∀ k, k ∈ G → k < w.heap.size) : Apart F G := fun k hk hg => by have := hF k hk; have := hG k hg; omega

/-! Blocks known whole. -/
variable {g g' : Nat} {t t' : TypeId} {cs cs' : Array Value}
theorem Blk.lt (h : Blk w g t cs) : g < w.heap.size := (Array.getElem?_eq_some_iff.1 h).1
theorem Blk.cell (h : Blk w g t cs) (i : Nat) : w.cell? ⟨g, i, none⟩ = cs[i]? := cell_of_row w g i cs t (0, 0) h
theorem Blk.free (h : Blk w g t cs) (i : Nat) : w.frozen? ⟨g, i, none⟩ = false := by
  have h' : w.heap[g]? = some (.cells cs t (0, 0)) := h
  simp [World.frozen?, h']
theorem Blk.new (w : World) (t : TypeId) (cs : Array Value) : Blk (w.alloc (.cells cs t)) w.heap.size t cs := heap_alloc_new w _
theorem Blk.drew (h : Blk w g t cs) : Blk w.drew g t cs := h
theorem Blk.drewN (h : Blk w g t cs) (n : Nat) : Blk (w.drewN n) g t cs := h
theorem Blk.alloc (h : Blk w g t cs) (o : Obj) : Blk (w.alloc o) g t cs := (Below.heap_alloc w o g h.lt).trans h
theorem Blk.set_ (h : Blk w g t cs) (i : Nat) (u : Value) : Blk (w.setCell ⟨g, i, none⟩ u) g t (cs.setIfInBounds i u) := by
  have h' : w.heap[g]? = some (.cells cs t (0, 0)) := h
  unfold Blk
  simp [World.setCell, Array.getElem?_modify, h']
theorem Blk.far (h : Blk w g t cs) {p : Addr} (hp : g ≠ p.block) (u : Value) : Blk (w.setCell p u) g t cs := (Below.heap_setCell w p u g hp).trans h
theorem Blk.turned (h : Blk w g t cs) (ht : Turned F w w') (hg : g ∉ F) : Blk w' g t cs := (ht.block g h.lt hg).trans h
theorem Blk.grown {row : Option Nat} (h : Blk w g t cs) (hb : w.grownBy w' row) (hg : some g ≠ row) : Blk w' g t cs := (hb.block g h.lt hg).trans h
theorem Blk.below {B : Nat} (h : Blk w g t cs) (hb : Below B w w') (hg : g < B) : Blk w' g t cs := (hb.block g hg).trans h
theorem Blk.kind (h : Blk w g t cs) (h' : Blk w g' t' cs') (hne : t ≠ t') : g ≠ g' := by
  rintro rfl
  have e : some (Obj.cells cs t (0, 0)) = some (Obj.cells cs' t' (0, 0)) := Eq.trans (Eq.symm h) h'
  injection e with e
  injection e with _ e2
  exact hne e2

/-! Rows of an object's own. -/
variable {base size n : Nat} {e : TypeId} {v : Value} {xs : List Value}
theorem own_turned (h : w.ownsRow base e size v n xs) (ht : Turned F w w') (hn : ∀ k, v.ownBlock = some k → k ∉ F) : w'.ownsRow base e size v n xs := by
  refine ⟨h.1, ?_⟩
  rcases h.2 with h2 | ⟨g, cap, cur, rfl, hb, hg, rest⟩
  · exact .inl h2
  · exact .inr ⟨g, cap, cur, rfl, hb, (ht.block g (Array.getElem?_eq_some_iff.1 hg).1 (hn g rfl)).trans hg, rest⟩
theorem own_setCell (h : w.ownsRow base e size v n xs) {p : Addr} (hp : v.ownBlock ≠ some p.block) (u : Value) : (w.setCell p u).ownsRow base e size v n xs := by
  refine ⟨h.1, ?_⟩
  rcases h.2 with h2 | ⟨g, cap, cur, rfl, hb, hg, rest⟩
  · exact .inl h2
  · exact .inr ⟨g, cap, cur, rfl, hb, (Below.heap_setCell w p u g (fun e => hp (by rw [← e]; rfl))).trans hg, rest⟩
theorem own_drew' (h : w.ownsRow base e size v n xs) : w.drew.ownsRow base e size v n xs := h
theorem own_drewN' (h : w.ownsRow base e size v n xs) (k : Nat) : (w.drewN k).ownsRow base e size v n xs := h
theorem own_kind (h : w.ownsRow base e size v n xs) (hg : Blk w g t cs) (hne : e ≠ t) : v.ownBlock ≠ some g := by
  rcases h.2 with ⟨rfl, _⟩ | ⟨g', cap, cur, rfl, _, hh, _⟩
  · simp [Value.ownBlock]
  · intro he
    have hg' : g' = g := by simpa [Value.ownBlock] using he
    subst hg'
    exact Blk.kind (t := e) hh hg hne rfl
theorem own_kinds {base' size' n' : Nat} {e' : TypeId} {v' : Value} {xs' : List Value} (h : w.ownsRow base e size v n xs) (h' : w.ownsRow base' e' size' v' n' xs') (hne : e ≠ e') {k : Nat} (hk : v.ownBlock = some k) : v'.ownBlock ≠ some k := by
  rcases h.2 with ⟨rfl, _⟩ | ⟨g', cap, cur, rfl, _, hh, _⟩
  · simp [Value.ownBlock] at hk
  · have hg' : g' = k := by simpa [Value.ownBlock] using hk
    subst hg'
    exact own_kind h' (show Blk w g' e cur from hh) (Ne.symm hne)
theorem own_lt (h : w.ownsRow base e size v n xs) {k : Nat} (hk : v.ownBlock = some k) : k < w.heap.size := (h.lt k hk).2
theorem own_base' {base' : Nat} (h : w.ownsRow base e size v n xs) (hb : base' ≤ base) : w.ownsRow base' e size v n xs :=
  ⟨h.1, h.2.imp id fun ⟨g, cap, cur, h1, h2, r⟩ => ⟨g, cap, cur, h1, by omega, r⟩⟩
theorem own_form' (h : w.ownsRow base e size v n xs) : ∃ A c, v = .slice A n c ∧ n ≤ c ∧ c ≤ maxLen := by
  rcases h.2 with ⟨rfl, rfl⟩ | ⟨g, cap, cur, rfl, _, _, h1, h2, _⟩
  · exact ⟨none, 0, rfl, Nat.le_refl _, by simp [maxLen]⟩
  · exact ⟨_, cap, rfl, h1, h2⟩
theorem own_at_ {A : Option Addr} {m c : Nat} (h : w.ownsRow base e 1 (.slice A m c) n xs) {k : Nat} {u : Value} (hk : xs[k]? = some u) : ∃ b, A = some ⟨b, 0, none⟩ ∧ w.cell? ⟨b, k, none⟩ = some u := by
  rcases h.2 with ⟨hv, rfl⟩ | ⟨g, cap, cur, hv, _, hg, _, _, _, ht⟩
  · have : xs = [] := List.eq_nil_of_length_eq_zero (by have := h.1; omega)
    subst this; simp at hk
  · injection hv with h1 h2 h3
    subst h1
    refine ⟨g, rfl, ?_⟩
    rw [cell_of_row w g k cur e (0, 0) hg]
    rw [← ht, List.getElem?_take] at hk
    split at hk
    · simpa using hk
    · cases hk
theorem own_ats {A : Option Addr} {m c : Nat} (h : w.ownsRow base e size (.slice A m c) n xs) {k : Nat} {u : Value} (hk : xs[k]? = some u) : ∃ b, A = some ⟨b, 0, none⟩ ∧ w.cell? ⟨b, k, none⟩ = some u := by
  rcases h.2 with ⟨hv, rfl⟩ | ⟨g, cap, cur, hv, _, hg, _, _, _, ht⟩
  · have : xs = [] := List.eq_nil_of_length_eq_zero (by have := h.1; simpa using this)
    subst this; simp at hk
  · injection hv with h1 h2 h3
    subst h1
    refine ⟨g, rfl, ?_⟩
    rw [cell_of_row w g k cur e (0, 0) hg]
    rw [← ht, List.getElem?_take] at hk
    split at hk
    · simpa using hk
    · cases hk

/-! Maps of an object's own: block and reading. -/
section
variable {P : Program} {k : TypeId} {R : Value → Option (DataW Unit × List MemPlace)} {b m : Nat} {D : DataW Unit}
theorem map_turned (h : w.ownsMap P k R b m D) (ht : Turned F w w') (hb : b ∉ F) : w'.ownsMap P k R b m D := by
  have hlt := h.lt
  obtain ⟨es, clock, hh, r⟩ := h
  exact ⟨es, clock, (ht.block b hlt hb).trans hh, r⟩
theorem map_kind (h : w.ownsMap P k R b m D) (hg : Blk w g t cs) : b ≠ g := by
  rintro rfl
  obtain ⟨es, clock, hh, _⟩ := h
  have e : some (Obj.map es clock) = some (Obj.cells cs t (0, 0)) := Eq.trans (Eq.symm hh) hg
  injection e with e
  cases e
theorem map_own (h : w.ownsMap P k R b m D) (ho : w.ownsRow base e size v n xs) : v.ownBlock ≠ some b := by
  rcases ho.2 with ⟨rfl, _⟩ | ⟨g', cap, cur, rfl, _, hh, _⟩
  · simp [Value.ownBlock]
  · intro he
    have hg' : g' = b := by simpa [Value.ownBlock] using he
    subst hg'
    exact map_kind h (show Blk w g' e cur from hh) rfl
theorem map_drewN (h : w.ownsMap P k R b m D) (j : Nat) : (w.drewN j).ownsMap P k R b m D := h
end
end

/-! An entry of a map that is written out. -/
theorem wpList_insert_own {H : Type} {P : Program} (w : World) {ops : Array Oper} {rest : List Oper} {o : Oper} {a : Act} {Q : Exit → Act → World → Prop}
    (hg : o.guard = none) (m x v : Operand) (t : TypeId) (hop : o.op = Op.insert t m x v)
    (k e : TypeId) (K : Maps.Keyed P k) (ht : P.underlying t = some (.map k e)) (R : Value → Option (DataW H × List MemPlace)) (b n : Nat) (D : DataW H)
    (hm : a.eval m = .map (some b)) (hown : w.ownsMap P k R b n D) (hn : n < maxLen) (key val : Value) (kl : Lit) (hx : a.eval x = key) (hv : a.eval v = val) (hkey : keyOf P k key = some kl)
    (d : DataW H) (ps : List MemPlace) (hval : R val = some (d, ps))
    (hK : ∀ w', w'.ownsMap P k R b (n + 1) (D.put kl d) → w.grownBy w' (some b) → wpList P ops Q rest (a.put o.dst undef) w') :
    wpList P ops Q (o :: rest) a w := by
  refine wpList_plain hg fun K' hK' => ?_
  obtain ⟨w', hrun, r1, r2⟩ := hown.update K ht hn hkey hval
  unfold Oper.wp
  simp [execOp, hop, hm, hx, hv, hrun, Result.andThen]
  exact hK' _ _ (hK w' r1 r2)

/-! A map from keys of a kind to integers, as a function. -/
section
variable {α : Type}
def Agrees (kd : α → Lit) (ok : α → Prop) (D : DataW Unit) (f : α → Option Int) : Prop :=
  Maps.IsMap D ∧ ∀ a, ok a → Maps.has D (kd a) = (f a).isSome ∧ D.atKey (kd a) (.lit (.int .i64 0)) = .lit (.int .i64 ((f a).getD 0))
theorem Agrees.none_ (kd : α → Lit) (ok : α → Prop) : Agrees kd ok (.map []) (fun _ => none) := ⟨Maps.isMap_empty, fun _ _ => ⟨rfl, rfl⟩⟩
theorem Agrees.put [DecidableEq α] {kd : α → Lit} {ok : α → Prop} (inj : ∀ a b, ok a → ok b → kd a = kd b → a = b) {D : DataW Unit} {f : α → Option Int} (h : Agrees kd ok D f) (a : α) (ha : ok a) (hk : WideAt.IsKeyLit (kd a)) (c : Int) :
    Agrees kd ok (D.put (kd a) (.lit (.int .i64 c))) (fun b => if b = a then some c else f b) := by
  refine ⟨h.1.put _ _, fun b hbo => ?_⟩
  by_cases hb : b = a
  · subst hb
    simp only [if_pos rfl]
    exact ⟨Maps.has_put_same h.1 hk _, Maps.atKey_put_same h.1 hk _ _⟩
  · simp only [if_neg hb]
    have hne : kd b ≠ kd a := fun e => hb (inj _ _ hbo ha e)
    exact ⟨(Maps.has_put_other hne _).trans (h.2 b hbo).1, (Maps.atKey_put_other hne _ _).trans (h.2 b hbo).2⟩
theorem Agrees.congr {kd : α → Lit} {ok : α → Prop} {D : DataW Unit} {f g : α → Option Int} (h : Agrees kd ok D f) (e : ∀ a, f a = g a) : Agrees kd ok D g := ⟨h.1, fun a ha => by rw [← e a]; exact h.2 a ha⟩
theorem Agrees.has {kd : α → Lit} {ok : α → Prop} {D : DataW Unit} {f : α → Option Int} (h : Agrees kd ok D f) (a : α) (ha : ok a) : Maps.has D (kd a) = (f a).isSome := (h.2 a ha).1
theorem Agrees.at_ {kd : α → Lit} {ok : α → Prop} {D : DataW Unit} {f : α → Option Int} (h : Agrees kd ok D f) (a : α) (ha : ok a) {c : Int} (hc : D.atKey (kd a) (.lit (.int .i64 0)) = .lit (.int .i64 c)) : c = (f a).getD 0 := by
  have := (h.2 a ha).2
  rw [hc] at this
  injection this with this
  injection this with _ this

variable [DecidableEq α]
/-- Where a thing stands first in a list. -/
def ix : List α → α → Option Nat
  | [], _ => none
  | b :: r, a => if b = a then some 0 else (ix r a).map (· + 1)
theorem ix_some {l : List α} {a : α} {k : Nat} (h : ix l a = some k) : l[k]? = some a := by
  induction l generalizing k with
  | nil => cases h
  | cons b r ih =>
    unfold ix at h
    split at h
    · rename_i hb; injection h with h; subst h; subst hb; rfl
    · cases hr : ix r a with
      | none => rw [hr] at h; cases h
      | some j => rw [hr] at h; injection h with h; subst h; exact ih hr
theorem ix_lt {l : List α} {a : α} {k : Nat} (h : ix l a = some k) : k < l.length := (List.getElem?_eq_some_iff.1 (ix_some h)).1
theorem ix_none {l : List α} {a : α} : ix l a = none ↔ a ∉ l := by
  induction l with
  | nil => simp [ix]
  | cons b r ih =>
    unfold ix
    by_cases hb : b = a
    · simp [hb]
    · rw [if_neg hb]
      simp [ih, Ne.symm hb]
theorem ix_snoc (l : List α) (b a : α) : ix (l ++ [b]) a = (ix l a).or (if b = a then some l.length else none) := by
  induction l with
  | nil => by_cases hb : b = a <;> simp [ix, hb]
  | cons x r ih =>
    rw [List.cons_append]
    unfold ix
    by_cases hx : x = a
    · simp [hx]
    · rw [if_neg hx, if_neg hx, ih]
      cases ix r a with
      | none => by_cases hb : b = a <;> simp [hb]
      | some j => simp
theorem ix_get {l : List α} (hn : l.Nodup) {k : Nat} {a : α} (h : l[k]? = some a) : ix l a = some k := by
  induction l generalizing k with
  | nil => cases h
  | cons b r ih =>
    cases k with
    | zero => injection h with h; subst h; simp [ix]
    | succ k =>
      have h' : r[k]? = some a := by simpa using h
      have hne : b ≠ a := by
        rintro rfl
        exact (List.nodup_cons.1 hn).1 (List.mem_of_getElem? h')
      unfold ix
      rw [if_neg hne, ih (List.nodup_cons.1 hn).2 h']
      rfl
end

theorem ix_first {α : Type} [DecidableEq α] {l : List α} {a : α} {k : Nat} (h : l[k]? = some a) (hn : ∀ j x, j < k → l[j]? = some x → x ≠ a) : ix l a = some k := by
  induction l generalizing k with
  | nil => cases h
  | cons b r ih =>
    cases k with
    | zero => injection h with h; subst h; simp [ix]
    | succ k =>
      have hne : b ≠ a := hn 0 b (by omega) rfl
      unfold ix
      rw [if_neg hne, ih (k := k) (by simpa using h) (fun j x hj hx => hn (j + 1) x (by omega) (by simpa using hx))]
      rfl
theorem ix_absent {α : Type} [DecidableEq α] {l : List α} {a : α} (hn : ∀ j x, j < l.length → l[j]? = some x → x ≠ a) : ix l a = none :=
  ix_none.2 fun hm => by
    obtain ⟨j, hj⟩ := List.mem_iff_getElem?.1 hm
    exact hn j a (List.getElem?_eq_some_iff.1 hj).1 hj rfl

/-- .. as an integer. -/
def ixI {α : Type} [DecidableEq α] (l : List α) (a : α) : Option Int := (ix l a).map Int.ofNat

/-! Texts as keys. -/
def kdS (s : ByteArray) : Lit := .string s.data.toList
theorem kdS_inj (a b : ByteArray) (h : kdS a = kdS b) : a = b := by
  unfold kdS at h
  injection h with h
  obtain ⟨⟨l⟩⟩ := a
  obtain ⟨⟨m⟩⟩ := b
  simp at h
  subst h
  rfl
theorem kdS_key (s : ByteArray) : WideAt.IsKeyLit (kdS s) := trivial


theorem below_drewN' {B : Nat} {a w : World} (h : Below B a w) (n : Nat) : Below B a (w.drewN n) := ⟨h.os, h.tape, h.output, h.size, h.block⟩

theorem cells_new (w : World) (us : Array Value) (t : TypeId) : ∀ j u, us.toList[j]? = some u → (w.alloc (.cells us t)).cell? ((⟨w.heap.size, 0, none⟩ : Addr).add j) = some u := fun j u hu => by
  have e : (⟨w.heap.size, 0, none⟩ : Addr).add j = ⟨w.heap.size, j, none⟩ := by unfold Addr.add; split <;> simp_all
  rw [e, (Blk.new w t us).cell j]
  rwa [Array.getElem?_toList] at hu
theorem Blk.new' {w : World} {g : Nat} {t : TypeId} {cs : Array Value} (h : w.heap.size = g) : Blk (w.alloc (.cells cs t)) g t cs := h ▸ heap_alloc_new w _
theorem cells_at {w : World} {g : Nat} {t : TypeId} {us : Array Value} (h : Blk w g t us) {xs : List Value} (hx : us.toList = xs) : ∀ j u, xs[j]? = some u → w.cell? ((⟨g, 0, none⟩ : Addr).add j) = some u := fun j u hu => by
  have e : (⟨g, 0, none⟩ : Addr).add j = ⟨g, j, none⟩ := by unfold Addr.add; split <;> simp_all
  rw [e, h.cell j]
  rwa [← hx, Array.getElem?_toList] at hu

/-- An append in a region that draws its order. -/
theorem step_append_at {P : Program} {w : World} {ops : Array Oper} {o : Oper} {a : Act} {K : Act → World → Prop} {Q : Exit → Act → World → Prop} {E : Prop} (hgd : o.guard = none) (s x : Operand) (t : TypeId)
    (ho : o.op = .call { callee := .builtin .append, args := #[s, x], argTypes := #[t, t] })
    (base : Nat) (e : TypeId) (i : TypeInfo) (z : Value) (size bytes : Nat) (ht : P.underlying t = some (.slice e)) (hi : P.info? e = some i) (hz : i.zero = some z)
    (hsize : i.size = size) (hby : i.bytes = bytes) (hzs : z.cells.size = size) (hsz : 0 < size)
    (v : Value) (n : Nat) (xs : List Value) (hs : a.eval s = v) (hown : w.ownsRow base e size v n xs)
    (ad : Addr) (m c : Nat) (news : List Value) (hx : a.eval x = .slice (some ad) m c) (hl : news.length = m * size) (hnews : ∀ j u, news[j]? = some u → w.cell? (ad.add j) = some u) (h1 : ∀ u ∈ news, u.oneCell' = true)
    (h63 : n + m ≤ maxLen) (hbytes : (n + m) * bytes ≤ 140737488355328) (hbase : base ≤ w.heap.size)
    (h : ∀ v' w', w'.ownsRow base e size v' (n + m) (xs ++ news) → w.grownBy w' v.ownBlock → (v'.ownBlock = v.ownBlock ∨ v'.ownBlock = some w.heap.size) → K (a.put o.dst v') w') :
    if Region.wanted o (yielded ops a.tmps) = true then Oper.wp P o a w K Q else E := by
  have hw : Region.wanted o (yielded ops a.tmps) = true := by simp [Region.wanted, hgd]
  rw [if_pos hw]
  obtain ⟨v', w', hr, h2, h3, _, h5⟩ := run_append_own_at (P := P) w base t o.type e i z size bytes ht hi hz hsize hby hzs hsz v n xs hown ad m c news hl hnews h1 h63 hbytes hbase
  unfold Oper.wp execOp
  simp only [ho, resolve, invoke, builtin, Sem.run_bind, Sem.run_pure, Result.andThen_ok, List.map_toArray, List.map_cons, List.map_nil, hs, hx, hr]
  exact h v' w' h2 h3 h5
/-- A store into a map in a region that draws its order. -/
theorem step_mapUpdate_own {H : Type} {P : Program} {w : World} {ops : Array Oper} {o : Oper} {a : Act} {K : Act → World → Prop} {Q : Exit → Act → World → Prop} {E : Prop}
    (hg : o.guard = none) (m x v : Operand) (t : TypeId) (hop : o.op = Op.mapUpdate t m x v)
    (k e : TypeId) (KL : Maps.Keyed P k) (ht : P.underlying t = some (.map k e)) (R : Value → Option (DataW H × List MemPlace)) (b n : Nat) (D : DataW H)
    (hm : a.eval m = .map (some b)) (hown : w.ownsMap P k R b n D) (hn : n < maxLen) (key val : Value) (kl : Lit) (hx : a.eval x = key) (hv : a.eval v = val) (hkey : keyOf P k key = some kl)
    (d : DataW H) (ps : List MemPlace) (hval : R val = some (d, ps))
    (hK : ∀ w', w'.ownsMap P k R b (n + 1) (D.put kl d) → w.grownBy w' (some b) → K (a.put o.dst undef) w') :
    if Region.wanted o (yielded ops a.tmps) = true then Oper.wp P o a w K Q else E := by
  have hw : Region.wanted o (yielded ops a.tmps) = true := by simp [Region.wanted, hg]
  rw [if_pos hw]
  obtain ⟨w', hrun, r1, r2⟩ := hown.update KL ht hn hkey hval
  unfold Oper.wp
  simp [execOp, hop, hm, hx, hv, hrun, Result.andThen]
  exact hK w' r1 r2

/-! Four results. -/
theorem results4 {fn : Func} {t u v x : Tmp} (h : fn.results = #[.tmp t, .tmp u, .tmp v, .tmp x]) (tmps : Array Value) (P : Program) (w : World) :
    (results fn tmps).run P w = .ok (.tuple #[tmps.getD t undef, tmps.getD u undef, tmps.getD v undef, tmps.getD x undef]) w := by simp [results, h]

theorem str_ne {a b : ByteArray} (h : a ≠ b) : (a.toList == b.toList) = false := beq_eq_false_iff_ne.2 fun e => h (kdS_inj a b (by rw [kdS, kdS, ← ByteArray.toList_eq, ← ByteArray.toList_eq, e]))
def i64s (zs : List Int) : List Value := zs.map (Value.int .i64)

end Go.Proofs.YtpmfmkpfjomgnaaGreatDoor

/- What a law's arguments are, and how a walk that turns nothing of what was there proves the law. -/
namespace Go.Proofs.YtpmfmkpfjomgnaaGreatDoor
set_option linter.unusedSimpArgs false
set_option linter.unusedVariables false
open Go.RowKit Go.ChangeShapes Go.WideShapes
open Go.ChangeMaps (open_string shut_string)

/-- A slice's head A leads, below block B, to cells that hold xs. -/
def Rd (w : World) (B : Nat) (A : Option Addr) (xs : List Value) : Prop :=
  ∀ k v, xs[k]? = some v → ∃ b o, A = some ⟨b, o, none⟩ ∧ b < B ∧ w.cell? ⟨b, o + k, none⟩ = some v
theorem Rd.nil {w : World} {B : Nat} {A : Option Addr} : Rd w B A [] := fun k v h => by simp at h
theorem Rd.below {w w' : World} {B B' : Nat} {A : Option Addr} {xs : List Value} (h : Rd w B A xs) (hb : Below B' w w') (hB : B ≤ B') : Rd w' B A xs := fun k v hk => by
  obtain ⟨b, o, rfl, hlt, hc⟩ := h k v hk
  exact ⟨b, o, rfl, hlt, (World.cell?_of_block (hb.block b (Nat.lt_of_lt_of_le hlt hB))).trans hc⟩
theorem Rd.at_ {w : World} {B : Nat} {A : Option Addr} {xs : List Value} (h : Rd w B A xs) {k : Nat} {v : Value} (hk : xs[k]? = some v) : ∃ b o, A = some ⟨b, o, none⟩ ∧ b < B ∧ w.cell? ⟨b, o + k, none⟩ = some v := h k v hk
theorem cell_lt {w : World} {a : Addr} {v : Value} (h : w.cell? a = some v) : a.block < w.heap.size := by
  rcases Nat.lt_or_ge a.block w.heap.size with hl | hl
  · exact hl
  · simp [World.cell?, Array.getElem?_eq_none hl] at h
/-- Cells that stand one behind the other. -/
theorem rd_of {w : World} {a : Addr} {xs : List Value} (h : ∀ i v, xs[i]? = some v → w.cell? (a.add i) = some v) : Rd w w.heap.size (some a) xs := fun k v hk => by
  have h0 : ∃ u, xs[0]? = some u := by
    rcases xs with _ | ⟨u, r⟩
    · simp at hk
    · exact ⟨u, rfl⟩
  obtain ⟨u, hu⟩ := h0
  have hc := h k v hk
  have hs : a.spot = none := by simpa [Addr.add] using World.cell?_spot (h 0 u hu)
  obtain ⟨b, o, sp⟩ := a
  simp only at hs
  subst hs
  have e : (Addr.add ⟨b, o, none⟩ k) = ⟨b, o + k, none⟩ := by
    unfold Addr.add
    split
    · rename_i h0; subst h0; rfl
    · rfl
  rw [e] at hc
  exact ⟨b, o, rfl, cell_lt hc, hc⟩

/-! What an argument is: its value, how it reads. -/
section
variable {H : Type} {enc : TypeId × Value → H} {P : Program} {W : World}
def In (enc : TypeId × Value → H) (P : Program) (W : World) (t : TypeId) (v : Value) (d : DataW H) : Prop :=
  (∃ base, Value.okWide P W .any base t v) ∧ ∃ ps, DataW.Trod enc P W 0 (fun _ => true) true t v d ps
variable {t e : TypeId} {v : Value} {d : DataW H}
theorem In.string (h : In enc P W t v d) (ht : P.underlying t = some .string) : ∃ s : ByteArray, v = .string s ∧ d = .lit (.string s.data.toList) ∧ s.size ≤ maxLen := by
  obtain ⟨⟨b, hv⟩, ps, hd⟩ := h
  obtain ⟨s, h1, h2, _, h3⟩ := open_string ht hv hd
  exact ⟨s, h1, h2, h3⟩
theorem In.int {k : IntKind} (h : In enc P W t v d) (ht : P.underlying t = some (.int k)) : ∃ n, v = .int k n ∧ d = .lit (.int k n) ∧ (Lit.int k n).wf = true := by
  obtain ⟨⟨b, hv⟩, ps, hd⟩ := h
  obtain ⟨s, h1, h2, _, h3⟩ := open_int ht hv hd
  exact ⟨s, h1, h2, h3⟩
theorem In.bool (h : In enc P W t v d) (ht : P.underlying t = some .bool) : ∃ x, v = .bool x ∧ d = .lit (.bool x) := by
  obtain ⟨⟨b, hv⟩, ps, hd⟩ := h
  obtain ⟨s, h1, h2, _⟩ := open_bool ht hv hd
  exact ⟨s, h1, h2⟩
/-- How a slice's datum looks: its elements, its spare ones. -/
def Long (d : DataW H) (n c : Nat) : Prop := (d = .nil ∧ n = 0 ∧ c = 0) ∨ ∃ a b, d = .slice a b ∧ a.length = n ∧ n + b.length = c
theorem In.strings (h : In enc P W t v d) (ht : P.underlying t = some (.slice e)) (he : P.underlying e = some .string) (hc : P.cellsOf e = 1) :
    ∃ (A : Option Addr) (n c : Nat) (ss : List ByteArray), v = .slice A n c ∧ ss.length = n ∧ n ≤ c ∧ c ≤ maxLen ∧ Rd W W.heap.size A (ss.map Value.string) ∧ (∀ s ∈ ss, s.size ≤ maxLen) ∧ Long d n c ∧ (d = .nil ∧ ss = [] ∨ ∃ b, d = .slice (strs ss) b) := by
  obtain ⟨⟨b, hv⟩, ps, fuel, hf⟩ := h
  obtain ⟨A, n, c, rfl⟩ := okWide_slice ht hv
  rcases open_strings ht he hc hf with ⟨hcs, hx⟩ | ⟨a, len, cap, ss, hcs, _, hl, hm, hss, hx, hcell, hw⟩
  · simp [Value.cells] at hcs
    obtain ⟨rfl, rfl, rfl⟩ := hcs
    simp only [Prod.mk.injEq] at hx
    exact ⟨none, 0, 0, [], rfl, rfl, Nat.le_refl _, by simp [maxLen], Rd.nil, by simp, .inl ⟨hx.1, rfl, rfl⟩, .inl ⟨hx.1, rfl⟩⟩
  · simp [Value.cells] at hcs
    obtain ⟨rfl, rfl, rfl⟩ := hcs
    simp only [Prod.mk.injEq] at hx
    obtain ⟨rfl, _⟩ := hx
    have hs' : ss.length = c := by simpa using hss
    refine ⟨some a, n, c, ss.take n, rfl, by rw [List.length_take]; omega, hl, hm, rd_of fun i v hi => ?_, fun s hs => hw s (List.mem_of_mem_take hs), .inr ⟨_, _, rfl, by simp [strs]; omega, by simp [strs]; omega⟩, .inr ⟨_, rfl⟩⟩
    rw [List.getElem?_map, List.getElem?_take] at hi
    split at hi
    · rename_i hin
      have hlt : i < ss.length := by omega
      have := hcell i hlt
      rw [List.getD_eq_getElem?_getD, List.getElem?_eq_getElem hlt] at this
      rw [List.getElem?_eq_getElem hlt] at hi
      simp at hi
      subst hi
      exact this
    · simp at hi
theorem In.ints {k : IntKind} (h : In enc P W t v d) (ht : P.underlying t = some (.slice e)) (he : P.underlying e = some (.int k)) (hc : P.cellsOf e = 1) :
    ∃ (A : Option Addr) (n c : Nat) (zs : List Int), v = .slice A n c ∧ zs.length = n ∧ n ≤ c ∧ c ≤ maxLen ∧ Rd W W.heap.size A (zs.map (Value.int k)) ∧ (∀ z ∈ zs, (Lit.int k z).wf = true) ∧ Long d n c := by
  obtain ⟨⟨b, hv⟩, ps, fuel, hf⟩ := h
  obtain ⟨A, n, c, rfl⟩ := okWide_slice ht hv
  rcases open_ints ht he hc hf with ⟨hcs, hx⟩ | ⟨a, len, cap, ss, hcs, _, hl, hm, hss, hx, hcell, hw⟩
  · simp [Value.cells] at hcs
    obtain ⟨rfl, rfl, rfl⟩ := hcs
    simp only [Prod.mk.injEq] at hx
    exact ⟨none, 0, 0, [], rfl, rfl, Nat.le_refl _, by simp [maxLen], Rd.nil, by simp, .inl ⟨hx.1, rfl, rfl⟩⟩
  · simp [Value.cells] at hcs
    obtain ⟨rfl, rfl, rfl⟩ := hcs
    simp only [Prod.mk.injEq] at hx
    obtain ⟨rfl, _⟩ := hx
    have hs' : ss.length = c := by simpa using hss
    refine ⟨some a, n, c, ss.take n, rfl, by rw [List.length_take]; omega, hl, hm, rd_of fun i v hi => ?_, fun s hs => hw s (List.mem_of_mem_take hs), .inr ⟨_, _, rfl, by simp [lits]; omega, by simp [lits]; omega⟩⟩
    rw [List.getElem?_map, List.getElem?_take] at hi
    split at hi
    · rename_i hin
      have hlt : i < ss.length := by omega
      have := hcell i hlt
      rw [List.getD_eq_getElem?_getD, List.getElem?_eq_getElem hlt] at this
      rw [List.getElem?_eq_getElem hlt] at hi
      simp at hi
      subst hi
      exact this
    · simp at hi
/-- A slice of whatever: each element's cells, and how it reads. -/
theorem In.slice (h : In enc P W t v d) (ht : P.underlying t = some (.slice e)) (hpos : 0 < P.cellsOf e) :
    ∃ (A : Option Addr) (n c : Nat), v = .slice A n c ∧ n ≤ c ∧ c ≤ maxLen ∧ Long d n c ∧ ∀ i, i < n → ∃ (b o : Nat) (cs : List Value) (di : DataW H) (fuel : Nat) (ps : List MemPlace), A = some ⟨b, o, none⟩ ∧ b < W.heap.size ∧ cs.length = P.cellsOf e ∧
      (∀ j u, cs[j]? = some u → W.cell? ⟨b, o + (i * P.cellsOf e + j), none⟩ = some u) ∧ DataW.trod enc P W 0 (fun _ => true) true fuel e cs = some (di, ps) ∧ (∃ xs ys, d = .slice xs ys ∧ xs[i]? = some di) := by
  obtain ⟨⟨b, hv⟩, ps, fuel, hf⟩ := h
  obtain ⟨A, n, c, rfl⟩ := okWide_slice ht hv
  rcases Go.Deep.open_slice ht hf with ⟨hcs, hx⟩ | ⟨a, len, cap, m, k, D, Pl, hcs, _, hl, hm, hmm, hx, hi⟩
  · simp [Value.cells] at hcs
    obtain ⟨rfl, rfl, rfl⟩ := hcs
    simp only [Prod.mk.injEq] at hx
    exact ⟨none, 0, 0, rfl, Nat.le_refl _, by simp [maxLen], .inl ⟨hx.1, rfl, rfl⟩, fun i hi => by omega⟩
  · simp [Value.cells] at hcs
    obtain ⟨rfl, rfl, rfl⟩ := hcs
    simp only [Prod.mk.injEq] at hx
    obtain ⟨rfl, _⟩ := hx
    have hm' : m = c := by simpa using hmm
    subst hm'
    refine ⟨some a, n, m, rfl, hl, hm, .inr ⟨_, _, rfl, by simp, by simp; omega⟩, fun i hin => ?_⟩
    obtain ⟨cs, hc, ht'⟩ := hi i (by omega)
    obtain ⟨_, hlen, hat⟩ := World.cells?_some hc
    obtain ⟨u0, hu0⟩ : ∃ u, cs[0]? = some u := ⟨_, List.getElem?_eq_getElem (by omega)⟩
    have hs' : a.spot = none := by
      obtain ⟨cs1, hc1, _⟩ := hi 0 (by omega)
      obtain ⟨_, hlen1, hat1⟩ := World.cells?_some hc1
      have := hat1 0 hpos
      rw [List.getElem?_eq_getElem (by omega)] at this
      have hh : W.cell? a = some (cs1[0]'(by omega)) := by simpa [Addr.add] using this
      exact World.cell?_spot hh
    obtain ⟨ab, ao, asp⟩ := a
    simp only at hs'
    subst hs'
    have e1 : ∀ x y, ((Addr.add ⟨ab, ao, none⟩ x).add y) = ⟨ab, ao + (x + y), none⟩ := fun x y => by
      unfold Addr.add
      by_cases hx : x = 0 <;> by_cases hy : y = 0 <;> simp [hx, hy, Nat.add_assoc]
    have hcell : ∀ j u, cs[j]? = some u → W.cell? ⟨ab, ao + (i * P.cellsOf e + j), none⟩ = some u := fun j u hj => by
      have hjl := (List.getElem?_eq_some_iff.1 hj).1
      have := hat j (by omega)
      rw [e1, hj] at this
      exact this
    exact ⟨ab, ao, cs, D i, k, Pl i, rfl, cell_lt (hcell 0 u0 hu0), hlen, hcell, ht', _, _, rfl, by rw [List.getElem?_map, List.getElem?_range hin]; rfl⟩
/-- A struct's cells, where each field is one. -/
theorem fields_of {fs : Array Field} {cs : List Value} {di : DataW H} {fuel : Nat} {ps : List MemPlace} (he : P.underlying e = some (.struct fs)) (hone : Go.Deep.oneCellFields P fs = true) (hl : cs.length = fs.size)
    (h : DataW.trod enc P W 0 (fun _ => true) true fuel e cs = some (di, ps)) : ∀ (j : Nat) (f : Field), fs[j]? = some f → ∃ (u : Value) (n : Nat) (y : DataW H × List MemPlace), cs[j]? = some u ∧ DataW.trod enc P W 0 (fun _ => true) true n f.type [u] = some y := by
  intro j f hj
  obtain ⟨xs, n, _, _, _, hxl, hf⟩ := DataW.trod_struct he h
  obtain ⟨ho, hk⟩ := Go.Deep.hone_of hone j f hj
  have hjl : j < fs.size := (Array.getElem?_eq_some_iff.1 hj).1
  have hu : cs[j]? = some (cs[j]'(by omega)) := List.getElem?_eq_getElem (by omega)
  refine ⟨_, n, xs[j]'(by omega), hu, ?_⟩
  have h1 := hf j f hj
  rw [ho, hk, List.drop_eq_getElem_cons (by omega)] at h1
  rw [List.getElem?_eq_getElem (by omega)] at h1
  have h2 : (cs[j]'(by omega) :: cs.drop (j + 1)).take 1 = [cs[j]'(by omega)] := rfl
  rw [h2] at h1
  exact h1
theorem okWide_array {n : Nat} {r : Reach} {base : Nat} (ht : P.underlying t = some (.array n e)) (h : Value.okWide P W r base t v) : ∃ cs, v = .agg cs ∧ cs.size = P.cellsOf t := by
  simp only [Value.okWide, ht] at h
  obtain ⟨cs, h1, h2, _⟩ := h
  exact ⟨cs, h1, h2⟩
theorem In.ints3 {k : IntKind} (h : In enc P W t v d) (ht : P.underlying t = some (.array 3 e)) (hct : P.cellsOf t = 3) (he : P.underlying e = some (.int k)) (hc : P.cellsOf e = 1) :
    ∃ a b c, v = .agg #[.int k a, .int k b, .int k c] ∧ (Lit.int k a).wf = true ∧ (Lit.int k b).wf = true ∧ (Lit.int k c).wf = true := by
  obtain ⟨⟨b, hv⟩, ps, fuel, hf⟩ := h
  obtain ⟨cs, rfl, hs⟩ := okWide_array ht hv
  rw [hct] at hs
  obtain ⟨l⟩ := cs
  match l, hs with
  | [c0, c1, c2], _ =>
    obtain ⟨y0, y1, y2, n, _, h0, h1, h2⟩ := trod_array3 ht hc (by simpa [Value.cells] using hf)
    obtain ⟨z0, e0, _, w0⟩ := DataW.trod_int he h0
    obtain ⟨z1, e1, _, w1⟩ := DataW.trod_int he h1
    obtain ⟨z2, e2, _, w2⟩ := DataW.trod_int he h2
    simp at e0 e1 e2
    subst e0 e1 e2
    exact ⟨z0, z1, z2, rfl, w0, w1, w2⟩
end

/-- A law's way to true, nothing of what was there turned. -/
def TrueBelow (w : World) (e : Ending) (w' : World) : Prop := e = .returned (.bool true) ∧ Below w.heap.size w w'

theorem ret_bool {a b : Bool} (h : a = b) : Ending.returned (.bool a) = .returned (.bool b) := by rw [h]

/-! How a law is proved whose walk turns nothing of what was there. -/
section
variable {H : Type} {enc : TypeId × Value → H} {P : Program}
theorem trodAll_below (hl : laidOutB P = true) {W W' : World} (hb : Below W.heap.size W W') : ∀ (ts : List TypeId) (vs : List Value) (ds : List (DataW H)) (ps : List MemPlace), (∀ t ∈ ts, P.readableRec t = true ∧ t < P.types.size) →
    DataW.TrodAll enc P W 0 (fun _ => true) true ts vs ds ps → DataW.TrodAll enc P W' 0 (fun b => decide (b < W.heap.size)) true ts vs ds ps
  | [], vs, ds, ps, _, h => by
    obtain ⟨rfl, rfl, rfl⟩ := trodAll_nil h
    exact trodAll_mk0
  | t :: ts, vs, ds, ps, hr, h => by
    obtain ⟨v, vs', d, ds', p, q, rfl, rfl, rfl, h0, r0⟩ := trodAll_cons h
    have lt0 : ∀ x ∈ p, x.block < W.heap.size := by obtain ⟨m, hm⟩ := h0; exact DataW.trod_lt m _ _ _ hm
    exact trodAll_cons_mk (Below.trod hl (hr t (by simp)).1 (hr t (by simp)).2 h0 hb lt0) (trodAll_below hl hb ts vs' ds' q (fun u hu => hr u (by simp [hu])) r0)

theorem post_law {f : Func} {s : ChangeSpec} {W W' : World} {args : Array Value} {ds : List (DataW H)} {before : List MemPlace} {tb : TypeId}
    (hl : laidOutB P = true) (hr : ∀ t ∈ f.params.toList, P.readableRec t = true ∧ t < P.types.size) (hs : s.vars = []) (hres : f.resultTypes = #[tb]) (htb : P.underlying tb = some .bool)
    (hW : DataW.Whole enc P f.params.toList s.vars false W args.toList ds [] before) (hfn : s.fn H (ds ++ []) = { results := [.lit (.bool true)], args := ds })
    (hb : Below W.heap.size W W') : s.post enc P f false true false false W args (.bool true) W' := by
  have hW' := hW
  obtain ⟨p, q, hA, hV, hp, _, _⟩ := hW
  refine ⟨ds, [], before, [], p, [], hW', ?_, ?_, ?_, hb.frame _, fun h => by cases h⟩
  · rw [hres, hfn]
    exact trodAll_mk1 (shut_bool htb _)
  · rw [hfn]
    exact trodAll_below hl hb _ _ _ _ hr hA
  · rw [hfn, hs]
    exact rfl
end
end Go.Proofs.YtpmfmkpfjomgnaaGreatDoor

/- How a dependency lies in memory. -/
namespace Go.Proofs.YtpmfmkpfjomgnaaGreatDoor
set_option linter.unusedSimpArgs false
set_option linter.unusedVariables false
open Go.RowKit

/-- A dependency's five cells, s being where its arguments lie. -/
def rowD (d : Dep) (s : Value) : Array Value := #[.int .i64 d.kind, .string d.name, .int .i64 d.op, .string d.evr, s]
def CellsD (w : World) (b o : Nat) (d : Dep) (s : Value) : Prop :=
  w.cell? ⟨b, o, none⟩ = some (.int .i64 d.kind) ∧ w.cell? ⟨b, o + 1, none⟩ = some (.string d.name) ∧ w.cell? ⟨b, o + 2, none⟩ = some (.int .i64 d.op) ∧ w.cell? ⟨b, o + 3, none⟩ = some (.string d.evr) ∧ w.cell? ⟨b, o + 4, none⟩ = some s
mutual
/-- s is a slice of d's arguments, which lie in blocks of S, so all that is within them. -/
def Lay (w : World) (S : Nat → Prop) : Dep → Value → Prop
  | .mk _ _ _ _ ds, s => ∃ A c, s = .slice A ds.length c ∧ ds.length ≤ c ∧ (c ≤ maxLen ∧ (A = none → c = 0)) ∧ LayA w S ds A 0
def LayA (w : World) (S : Nat → Prop) : List Dep → Option Addr → Nat → Prop
  | [], _, _ => True
  | a :: r, A, i => (∃ b o s, A = some ⟨b, o, none⟩ ∧ S b ∧ CellsD w b (o + i * 5) a s ∧ Lay w S a s) ∧ LayA w S r A (i + 1)
end
/-- S's blocks are lists of dependencies, none of them marked. -/
def CleanS (w : World) (S : Nat → Prop) : Prop := ∀ b, S b → ∃ cs, Blk w b 50 cs
/-- What stands in S stays. -/
def StayS (S : Nat → Prop) (w w' : World) : Prop := ∀ b, S b → b < w.heap.size → w'.heap[b]? = w.heap[b]?

theorem CellsD.stay {w w' : World} {b o : Nat} {d : Dep} {s : Value} (h : CellsD w b o d s) (e : w'.heap[b]? = w.heap[b]?) : CellsD w' b o d s := by
  have k : ∀ i, w'.cell? ⟨b, i, none⟩ = w.cell? ⟨b, i, none⟩ := fun i => World.cell?_of_block e
  unfold CellsD at h ⊢
  rw [k, k, k, k, k]
  exact h
theorem CellsD.lt {w : World} {b o : Nat} {d : Dep} {s : Value} (h : CellsD w b o d s) : b < w.heap.size := cell_lt h.1
theorem layA_iff {w : World} {S : Nat → Prop} {ds : List Dep} {A : Option Addr} {i : Nat} : LayA w S ds A i ↔ ∀ j a, ds[j]? = some a → ∃ b o s, A = some ⟨b, o, none⟩ ∧ S b ∧ CellsD w b (o + (i + j) * 5) a s ∧ Lay w S a s := by
  induction ds generalizing i with
  | nil => simp [LayA]
  | cons a r ih =>
    simp only [LayA, ih]
    constructor
    · rintro ⟨h0, h⟩ j x hx
      cases j with
      | zero => simp at hx; subst hx; exact h0
      | succ j =>
        have := h j x (by simpa using hx)
        rwa [show i + 1 + j = i + (j + 1) by omega] at this
    · intro h
      refine ⟨by simpa using h 0 a rfl, fun j x hx => ?_⟩
      have := h (j + 1) x (by simpa using hx)
      rwa [show i + (j + 1) = i + 1 + j by omega] at this
theorem lay_iff {w : World} {S : Nat → Prop} {d : Dep} {s : Value} : Lay w S d s ↔ ∃ A c, s = .slice A d.args.length c ∧ d.args.length ≤ c ∧ (c ≤ maxLen ∧ (A = none → c = 0)) ∧ ∀ j a, d.args[j]? = some a → ∃ b o t, A = some ⟨b, o, none⟩ ∧ S b ∧ CellsD w b (o + j * 5) a t ∧ Lay w S a t := by
  obtain ⟨k, n, o, e, ds⟩ := d
  simp only [Lay, layA_iff, Dep.args, Nat.zero_add]
theorem Lay.stay {w w' : World} {S S' : Nat → Prop} (hS : ∀ b, S b → S' b) (hw : StayS S w w') (d : Dep) : ∀ s, Lay w S d s → Lay w' S' d s := by
  induction d using Dep.ind with
  | h k n o e ds ih =>
    intro s h
    rw [lay_iff] at h ⊢
    obtain ⟨A, c, h1, h2, h3, h4⟩ := h
    refine ⟨A, c, h1, h2, h3, fun j a ha => ?_⟩
    obtain ⟨b, p, t, e1, e2, e3, e4⟩ := h4 j a ha
    exact ⟨b, p, t, e1, hS b e2, e3.stay (hw b e2 e3.lt), ih a (List.mem_of_getElem? ha) t e4⟩
theorem CleanS.stay {w w' : World} {S : Nat → Prop} (h : CleanS w S) (hw : StayS S w w') : CleanS w' S := fun b hb => by
  obtain ⟨cs, hc⟩ := h b hb
  exact ⟨cs, (hw b hb hc.lt).trans hc⟩
theorem StayS.refl (S : Nat → Prop) (w : World) : StayS S w w := fun _ _ _ => rfl
theorem StayS.turned {S : Nat → Prop} {w w' : World} {F : List Nat} (ht : Turned F w w') (h : ∀ b, S b → b ∉ F) : StayS S w w' := fun b hb hl => ht.block b hl (h b hb)
theorem StayS.below {S : Nat → Prop} {w w' : World} {B : Nat} (hb : Below B w w') (h : ∀ b, S b → b < B) : StayS S w w' := fun b hs _ => hb.block b (h b hs)
theorem StayS.below' {S : Nat → Prop} {w w' : World} (hb : Below w.heap.size w w') : StayS S w w' := fun b _ hl => hb.block b hl
theorem StayS.trans {S : Nat → Prop} {w w' w'' : World} (h : StayS S w w') (k : StayS S w' w'') (hz : w.heap.size ≤ w'.heap.size) : StayS S w w'' := fun b hb hl => (k b hb (by omega)).trans (h b hb hl)
theorem Lay.form_ {w : World} {S : Nat → Prop} {d : Dep} {s : Value} (h : Lay w S d s) : ∃ A c, s = .slice A d.args.length c ∧ d.args.length ≤ c ∧ c ≤ maxLen := by
  rw [lay_iff] at h
  obtain ⟨A, c, h1, h2, h3, _⟩ := h
  exact ⟨A, c, h1, h2, h3.1⟩
theorem Lay.nil_ {w : World} {S : Nat → Prop} {d : Dep} {n c : Nat} (h : Lay w S d (.slice none n c)) : c = 0 ∧ n = 0 ∧ d.args = [] := by
  rw [lay_iff] at h
  obtain ⟨A, c', h1, h2, h3, _⟩ := h
  injection h1 with e1 e2 e3
  have := h3.2 e1.symm
  subst e3
  have h0 : d.args.length = 0 := by omega
  exact ⟨this, by omega, List.eq_nil_of_length_eq_zero h0⟩
/-- The arguments, one by one. -/
def ArgsAt (w : World) (S : Nat → Prop) (ds : List Dep) (A : Option Addr) : Prop := ∀ j a, ds[j]? = some a → ∃ b o t, A = some ⟨b, o, none⟩ ∧ S b ∧ CellsD w b (o + j * 5) a t ∧ Lay w S a t
theorem Lay.args_ {w : World} {S : Nat → Prop} {d : Dep} {s : Value} (h : Lay w S d s) : ∃ A c, s = .slice A d.args.length c ∧ d.args.length ≤ c ∧ c ≤ maxLen ∧ ArgsAt w S d.args A := by
  obtain ⟨A, c, h1, h2, h3, h4⟩ := lay_iff.1 h
  exact ⟨A, c, h1, h2, h3.1, h4⟩
theorem ArgsAt.stay {w w' : World} {S S' : Nat → Prop} {ds : List Dep} {A : Option Addr} (h : ArgsAt w S ds A) (hS : ∀ b, S b → S' b) (hw : StayS S w w') : ArgsAt w' S' ds A := fun j a ha => by
  obtain ⟨b, p, t, e1, e2, e3, e4⟩ := h j a ha
  exact ⟨b, p, t, e1, hS b e2, e3.stay (hw b e2 e3.lt), e4.stay hS hw⟩
theorem Lay.none_ (w : World) (S : Nat → Prop) (k : Int) (n : ByteArray) (o : Int) (e : ByteArray) : Lay w S (.mk k n o e []) (.slice none 0 0) := by
  rw [lay_iff]
  exact ⟨none, 0, rfl, Nat.le_refl _, ⟨by simp [maxLen], fun _ => rfl⟩, fun j a ha => by simp [Dep.args] at ha⟩

/-! Sizes. -/
mutual
/-- No text is too long. -/
def small : Dep → Prop
  | .mk _ n _ e ds => n.size ≤ 2147483648 ∧ e.size ≤ 2147483648 ∧ smalls ds
def smalls : List Dep → Prop
  | [] => True
  | a :: r => small a ∧ smalls r
end
theorem smalls_mem {ds : List Dep} (h : smalls ds) : ∀ a ∈ ds, small a := by
  induction ds with
  | nil => intro a ha; cases ha
  | cons b r ih =>
    simp only [smalls] at h
    intro a ha
    rcases List.mem_cons.1 ha with rfl | ha
    · exact h.1
    · exact ih h.2 a ha
theorem small_parts {d : Dep} (h : small d) : d.name.size ≤ 2147483648 ∧ d.evr.size ≤ 2147483648 ∧ ∀ a ∈ d.args, small a := by
  obtain ⟨k, n, o, e, ds⟩ := d
  simp only [small] at h
  exact ⟨h.1, h.2.1, smalls_mem h.2.2⟩
theorem nodes_parts (d : Dep) : nodes d = 1 + nodesA d.args := by cases d; rfl
theorem nodesA_mem {ds : List Dep} {a : Dep} (h : a ∈ ds) : nodes a ≤ nodesA ds := by
  induction ds with
  | nil => cases h
  | cons b r ih =>
    simp only [nodesA]
    rcases List.mem_cons.1 h with rfl | h
    · omega
    · have := ih h; omega
end Go.Proofs.YtpmfmkpfjomgnaaGreatDoor

/- The kinds of bytes, and how many stand at a text's beginning. -/
namespace Go.Proofs.YtpmfmkpfjomgnaaGreatDoor
set_option linter.unusedSimpArgs false
set_option linter.unusedVariables false
open Go.RowKit

/-- A function that tells of a byte. -/
def IsPred (f : FuncId) (p : UInt8 → Bool) : Prop := ∀ (c : UInt8) (w : World), Calls Tryz.prog f #[.int .u8 (c.toNat : Int)] w fun e w' => e = .returned (.bool (p c)) ∧ w = w'

theorem dgI (c : UInt8) : isDg c = (decide ((48 : Int) ≤ (c.toNat : Int)) && decide ((c.toNat : Int) ≤ 57)) := by
  unfold isDg
  rw [Bool.eq_iff_iff]; simp; omega
theorem ltI (c : UInt8) : isLt c = (decide ((97 : Int) ≤ (c.toNat : Int)) && decide ((c.toNat : Int) ≤ 122) || decide ((65 : Int) ≤ (c.toNat : Int)) && decide ((c.toNat : Int) ≤ 90)) := by
  unfold isLt
  rw [Bool.eq_iff_iff]; simp; omega

set_option maxRecDepth 100000 in
theorem isDigit_any : IsPred 204 isDg := by
  intro c w
  have h := Lib.hid (dgI c)
  go_enter Tryz.func204, Tryz.ntmps204
  go_wp2_with fail
  all_goals
    go_ret
    refine ⟨ret_bool ?_, rfl⟩
    rw [h.out, Bool.eq_iff_iff]
    simp <;> omega
set_option maxRecDepth 100000 in
theorem isLetter_any : IsPred 219 isLt := by
  intro c w
  have h := Lib.hid (ltI c)
  go_enter Tryz.func219, Tryz.ntmps219
  go_wp2_with fail
  all_goals
    go_ret
    refine ⟨ret_bool ?_, rfl⟩
    rw [h.out, Bool.eq_iff_iff]
    simp <;> omega
set_option maxRecDepth 100000 in
theorem refDigit_any : IsPred 185 isDg := by
  intro c w
  have h := Lib.hid (dgI c)
  go_enter Tryz.func185, Tryz.ntmps185
  go_wp2_with fail
  all_goals
    go_ret
    refine ⟨ret_bool ?_, rfl⟩
    rw [h.out, Bool.eq_iff_iff]
    simp <;> omega
set_option maxRecDepth 100000 in
theorem refLetter_any : IsPred 184 isLt := by
  intro c w
  have h := Lib.hid (ltI c)
  go_enter Tryz.func184, Tryz.ntmps184
  go_wp2_with fail
  all_goals
    go_ret
    refine ⟨ret_bool ?_, rfl⟩
    rw [h.out, Bool.eq_iff_iff]
    simp <;> omega
theorem idI (c : UInt8) : isIdle c = (!isDg c && !isLt c && !((c.toNat : Int) == 126) && !((c.toNat : Int) == 94)) := by
  unfold isIdle
  cases isDg c <;> cases isLt c <;> first | rfl | (rw [Bool.eq_iff_iff]; simp; omega)
theorem all_snoc {p : UInt8 → Bool} {l : List UInt8} {k : Nat} {c : UInt8} (h : (l.take k).all p = true) (hc : l[k]? = some c) (hp : p c = true) : (l.take (k + 1)).all p = true := by
  rw [List.take_add_one, hc, List.all_append, h]
  simp [hp]
theorem while_is {p : UInt8 → Bool} {l : List UInt8} {k : Nat} (h : (l.take k).all p = true) (hk : k ≤ l.length) (hc : ∀ c, l[k]? = some c → p c = false) : k = (l.takeWhile p).length := by
  induction l generalizing k with
  | nil => simp at hk; subst hk; rfl
  | cons b l ih =>
    cases k with
    | zero =>
      have := hc b rfl
      simp [this]
    | succ k =>
      simp only [List.take_succ_cons, List.all_cons, Bool.and_eq_true] at h
      rw [List.takeWhile_cons, h.1]
      have := ih h.2 (by simpa using hk) (fun c hcc => hc c (by simpa using hcc))
      simp [← this]
theorem byte_at {s : ByteArray} {k : Nat} (h : k < s.size) : s.data.toList[k]? = some s[k] := by
  have h' : k < s.data.size := h
  rw [Array.getElem?_toList, Array.getElem?_eq_getElem h']
  rfl
set_option maxRecDepth 100000 in
theorem isIdle_any : IsPred 229 isIdle := by
  intro c w
  have CD := Lib.hid (isDigit_any c)
  have CL := Lib.hid (isLetter_any c)
  have h := Lib.hid (idI c)
  generalize isDg c = d at *
  generalize isLt c = l at *
  cases d <;> cases l
  all_goals
    go_enter Tryz.func229, Tryz.ntmps229
    go_wp2_with fail
    refine (CD.out _).mono ?_
    rintro e w' ⟨rfl, rfl⟩
    go_wp2_with fail
    try
      refine (CL.out _).mono ?_
      rintro e w' ⟨rfl, rfl⟩
      go_wp2_with fail
  all_goals
    go_ret
    refine ⟨ret_bool ?_, rfl⟩
    rw [h.out, Bool.eq_iff_iff]
    simp <;> omega
set_option maxHeartbeats 400000 in
set_option maxRecDepth 100000 in
theorem run_any {f : FuncId} {p : UInt8 → Bool} (hp : IsPred f p) (ef : ∀ args w, (callFunc f args).run Tryz.prog w = .ok (.enter f args) w) (s : ByteArray) (hs : s.size ≤ maxLen) (w : World) :
    Calls Tryz.prog 201 #[.string s, .func (.func f) #[] #[]] w fun e w' => e = .returned (.int .i64 ((s.data.toList.takeWhile p).length : Nat)) ∧ w = w' := by
  unfold maxLen at hs
  have HP := Lib.hid hp
  clear hp
  go_enter Tryz.func201, Tryz.ntmps201
  go_wp2_with fail
  go_loop [5] (fun n => ∃ k : Nat, k ≤ s.size ∧ n = .int .i64 (k : Int) ∧ Hid ((s.data.toList.take k).all p = true)) (fun n => s.size - (intOf n).toNat)
  case atStart => exact ⟨0, Nat.zero_le _, rfl, show ((s.data.toList.take 0).all p = true) from rfl⟩
  case round =>
    obtain ⟨k, hk, rfl, hall⟩ := hrel
    by_cases hlt : k < s.size
    · have C := Lib.hid (HP.out s[k])
      cases hpk : p s[k] with
      | true =>
        have HN := Lib.hid (all_snoc hall.out (byte_at hlt) hpk)
        rw [hpk] at C
        clear hpk
        go_wp2_with fail
        refine (C.out _).mono ?_
        rintro e w' ⟨rfl, rfl⟩
        go_wp2_with fail
        go_round
        case rel => exact ⟨k + 1, by omega, by go_num, HN.out⟩
        case measure => simp [intOf]; omega
      | false =>
        have HN := Lib.hid (while_is hall.out (by simpa using hk) (fun c hc => by rw [byte_at hlt] at hc; injection hc with hc; rw [← hc]; exact hpk))
        rw [hpk] at C
        clear hpk
        go_wp2_with fail
        refine (C.out _).mono ?_
        rintro e w' ⟨rfl, rfl⟩
        go_wp2_with fail
        go_ret
        rw [← HN.out]
        exact ⟨rfl, rfl⟩
    · have HN := Lib.hid (while_is hall.out (by simpa using hk) (fun c hc => by have := (List.getElem?_eq_some_iff.1 hc).1; simp at this; exact absurd this hlt))
      go_wp2_with fail
      go_ret
      rw [← HN.out]
      exact ⟨rfl, rfl⟩
end Go.Proofs.YtpmfmkpfjomgnaaGreatDoor

/- The first of two numbers that is not nought: cmp.Or. -/
namespace Go.Proofs.YtpmfmkpfjomgnaaGreatDoor
set_option linter.unusedSimpArgs false
set_option linter.unusedVariables false
open Go.RowKit

set_option maxHeartbeats 400000 in
set_option maxRecDepth 100000 in
theorem or_any (g : Nat) (a b : Int) (w : World) (h0 : w.cell? ⟨g, 0, none⟩ = some (.int .i64 a)) (h1 : w.cell? ⟨g, 1, none⟩ = some (.int .i64 b)) :
    Calls Tryz.prog 194 #[.slice (some ⟨g, 0, none⟩) 2 2] w fun e w' => e = .returned (.int .i64 (thenC a b)) ∧ w = w' := by
  have HT := Lib.hid (show thenC a b = if a = 0 then b else a from rfl)
  generalize thenC a b = t at *
  by_cases ha : a = 0
  · rw [if_pos ha] at HT
    subst ha
    by_cases hb : b = 0
    · subst hb
      obtain rfl : t = 0 := HT.out
      clear HT
      go_enter Tryz.func194, Tryz.ntmps194
      go_wp2_with fail
      go_loop [8] (fun n => n = .int .i64 0 ∨ n = .int .i64 1 ∨ n = .int .i64 2) (fun n => 2 - (intOf n).toNat)
      case atStart => exact .inl rfl
      case round =>
        rcases hrel with rfl | rfl | rfl
        · go_wp2_with fail
          go_round
          case rel => exact .inr (.inl rfl)
          case measure => simp [intOf]
        · go_wp2_with fail
          go_round
          case rel => exact .inr (.inr rfl)
          case measure => simp [intOf]
        · go_wp2_with fail
          go_ret
          exact ⟨rfl, rfl⟩
    · have hb1 : (b == 0) = false := by simpa using hb
      have hb2 : (b != 0) = true := by simpa using hb
      obtain rfl : t = b := HT.out
      clear HT hb
      go_enter Tryz.func194, Tryz.ntmps194
      go_wp2_with fail
      go_loop [8] (fun n => n = .int .i64 0 ∨ n = .int .i64 1) (fun n => 2 - (intOf n).toNat)
      case atStart => exact .inl rfl
      case round =>
        rcases hrel with rfl | rfl
        · go_wp2_with fail
          go_round
          case rel => exact .inr rfl
          case measure => simp [intOf]
        · go_wp2_with fail
          go_ret
          exact ⟨rfl, rfl⟩
  · rw [if_neg ha] at HT
    have ha1 : (a == 0) = false := by simpa using ha
    have ha2 : (a != 0) = true := by simpa using ha
    obtain rfl : t = a := HT.out
    clear HT ha
    go_enter Tryz.func194, Tryz.ntmps194
    go_wp2_with fail
    go_loop [8] (fun n => n = .int .i64 0) (fun n => 2 - (intOf n).toNat)
    case atStart => exact rfl
    case round =>
      subst hrel
      go_wp2_with fail
      go_ret
      exact ⟨rfl, rfl⟩
end Go.Proofs.YtpmfmkpfjomgnaaGreatDoor

/- What a text goes on with: rpmRank, debRank, and the closures that tell it of two texts. -/
namespace Go.Proofs.YtpmfmkpfjomgnaaGreatDoor
set_option linter.unusedSimpArgs false
set_option linter.unusedVariables false
open Go.RowKit

theorem list_nil {s : ByteArray} (h : s.size = 0) : s.data.toList = [] := by
  apply List.eq_nil_of_length_eq_zero
  simpa using h
theorem list_cons {s : ByteArray} (h : 0 < s.size) : s.data.toList = s[0] :: s.data.toList.tail := by
  have h0 := byte_at h
  cases hl : s.data.toList with
  | nil => rw [hl] at h0; cases h0
  | cons b r => rw [hl] at h0; simp at h0; rw [← h0]; rfl
theorem size_len (s : ByteArray) : s.data.toList.length = s.size := by simp
theorem empty_of {s : ByteArray} (h : s.size = 0) : s = ⟨#[]⟩ := by
  obtain ⟨⟨l⟩⟩ := s
  have : l = [] := List.eq_nil_of_length_eq_zero h
  rw [this]
theorem toList_cons {s : ByteArray} (h : 0 < s.size) : s.toList.isEmpty = false := by
  rw [ByteArray.toList_eq, list_cons h]; rfl

set_option maxHeartbeats 400000 in
set_option maxRecDepth 100000 in
theorem rpmRank_any (s : ByteArray) (w : World) :
    Calls Tryz.prog 230 #[.string s] w fun e w' => e = .returned (.int .i64 (rankR s.data.toList)) ∧ w = w' := by
  by_cases h : s.size = 0
  · obtain rfl := empty_of h
    clear h
    go_enter Tryz.func230, Tryz.ntmps230
    go_wp2_with fail
    go_ret
    exact ⟨rfl, rfl⟩
  · have hpos : 0 < s.size := by omega
    have he := toList_cons hpos
    have he2 : s.toList ≠ [] := by intro h; rw [h] at he; cases he
    have HR : Hid (rankR s.data.toList = if (s[0].toNat : Int) = 126 then (0 : Int) else if (s[0].toNat : Int) = 94 then (2 : Int) else if isDg s[0] then (4 : Int) else (3 : Int)) := by
      have e1 : ((s[0].toNat : Int) = 126) = (s[0].toNat = 126) := by apply propext; omega
      have e2 : ((s[0].toNat : Int) = 94) = (s[0].toNat = 94) := by apply propext; omega
      show rankR s.data.toList = _
      rw [list_cons hpos]
      simp only [rankR, e1, e2]
    have CD := Lib.hid (isDigit_any s[0])
    generalize rankR s.data.toList = r at *
    generalize isDg s[0] = d at *
    by_cases h1 : (s[0].toNat : Int) = 126
    · have t1 : ((s[0].toNat : Int) == 126) = true := by simpa using h1
      rw [if_pos h1] at HR
      obtain rfl : r = 0 := HR.out
      clear HR h1 h
      go_enter Tryz.func230, Tryz.ntmps230
      go_wp2_with fail
      go_ret
      exact ⟨rfl, rfl⟩
    · have t1 : ((s[0].toNat : Int) == 126) = false := by simpa using h1
      rw [if_neg h1] at HR
      by_cases h2 : (s[0].toNat : Int) = 94
      · have t2 : ((s[0].toNat : Int) == 94) = true := by simpa using h2
        rw [if_pos h2] at HR
        obtain rfl : r = 2 := HR.out
        clear HR h1 h h2
        go_enter Tryz.func230, Tryz.ntmps230
        go_wp2_with fail
        go_ret
        exact ⟨rfl, rfl⟩
      · have t2 : ((s[0].toNat : Int) == 94) = false := by simpa using h2
        rw [if_neg h2] at HR
        clear h1 h h2
        cases d
        · obtain rfl : r = 3 := HR.out
          clear HR
          go_enter Tryz.func230, Tryz.ntmps230
          go_wp2_with fail
          refine (CD.out _).mono ?_
          rintro e w' ⟨rfl, rfl⟩
          go_wp2_with fail
          go_ret
          exact ⟨rfl, rfl⟩
        · obtain rfl : r = 4 := HR.out
          clear HR
          go_enter Tryz.func230, Tryz.ntmps230
          go_wp2_with fail
          refine (CD.out _).mono ?_
          rintro e w' ⟨rfl, rfl⟩
          go_wp2_with fail
          go_ret
          exact ⟨rfl, rfl⟩

set_option maxHeartbeats 400000 in
set_option maxRecDepth 100000 in
theorem debRank_any (s : ByteArray) (w : World) :
    Calls Tryz.prog 232 #[.string s] w fun e w' => e = .returned (.int .i64 (rankD s.data.toList)) ∧ w = w' := by
  by_cases h : s.size = 0
  · obtain rfl := empty_of h
    clear h
    go_enter Tryz.func232, Tryz.ntmps232
    go_wp2_with fail
    go_ret
    exact ⟨rfl, rfl⟩
  · have hpos : 0 < s.size := by omega
    have he := toList_cons hpos
    have he2 : s.toList ≠ [] := by intro h; rw [h] at he; cases he
    have HR : Hid (rankD s.data.toList = if isDg s[0] then 0 else if (s[0].toNat : Int) = 126 then -1 else if isLt s[0] then (s[0].toNat : Int) else (256 : Int) + (s[0].toNat : Int)) := by
      have e1 : ((s[0].toNat : Int) = 126) = (s[0].toNat = 126) := by apply propext; omega
      show rankD s.data.toList = _
      rw [list_cons hpos]
      simp only [rankD, e1]
    have CD := Lib.hid (isDigit_any s[0])
    have CL := Lib.hid (isLetter_any s[0])
    have hb : (s[0].toNat : Int) ≤ 255 := by have := UInt8.toNat_lt s[0]; omega
    have hb0 : (0 : Int) ≤ (s[0].toNat : Int) := by omega
    generalize rankD s.data.toList = r at *
    generalize isDg s[0] = d at *
    generalize isLt s[0] = l at *
    cases d
    · by_cases h1 : (s[0].toNat : Int) = 126
      · have t1 : ((s[0].toNat : Int) == 126) = true := by simpa using h1
        simp only [Bool.false_eq_true, if_false] at HR
        rw [if_pos h1] at HR
        obtain rfl : r = -1 := HR.out
        clear HR h1 h
        go_enter Tryz.func232, Tryz.ntmps232
        go_wp2_with fail
        refine (CD.out _).mono ?_
        rintro e w' ⟨rfl, rfl⟩
        go_wp2_with fail
        go_ret
        exact ⟨rfl, rfl⟩
      · have t1 : ((s[0].toNat : Int) == 126) = false := by simpa using h1
        simp only [Bool.false_eq_true, if_false] at HR
        rw [if_neg h1] at HR
        clear h1 h
        cases l
        · obtain rfl : r = 256 + (s[0].toNat : Int) := HR.out
          clear HR
          go_enter Tryz.func232, Tryz.ntmps232
          go_wp2_with fail
          refine (CD.out _).mono ?_
          rintro e w' ⟨rfl, rfl⟩
          go_wp2_with fail
          refine (CL.out _).mono ?_
          rintro e w' ⟨rfl, rfl⟩
          go_wp2_with fail
          go_ret
          exact ⟨rfl, rfl⟩
        · obtain rfl : r = (s[0].toNat : Int) := HR.out
          clear HR
          go_enter Tryz.func232, Tryz.ntmps232
          go_wp2_with fail
          refine (CD.out _).mono ?_
          rintro e w' ⟨rfl, rfl⟩
          go_wp2_with fail
          refine (CL.out _).mono ?_
          rintro e w' ⟨rfl, rfl⟩
          go_wp2_with fail
          go_ret
          exact ⟨rfl, rfl⟩
    · simp only [if_true] at HR
      obtain rfl : r = 0 := HR.out
      clear HR h
      go_enter Tryz.func232, Tryz.ntmps232
      go_wp2_with fail
      refine (CD.out _).mono ?_
      rintro e w' ⟨rfl, rfl⟩
      go_wp2_with fail
      go_ret
      exact ⟨rfl, rfl⟩
end Go.Proofs.YtpmfmkpfjomgnaaGreatDoor

/- A region that draws its order, in which a cell is loaded ahead of a store to it: what holds of the cells hangs on which stores have come up. -/
namespace Go.Proofs.YtpmfmkpfjomgnaaGreatDoor
set_option linter.unusedSimpArgs false
set_option linter.unusedVariables false
open Go

section
variable {P : Program} {ops : Array Oper} {Q : Exit → Act → World → Prop} {md : Region.Mode} {S : Array Bool → World → Prop}

/-- Whatever order is picked, and S, which may look at what has come up, holds behind each. -/
def wpAnyS (P : Program) (md : Region.Mode) (ops : Array Oper) (Q : Exit → Act → World → Prop) (S : Array Bool → World → Prop) : Nat → Array Bool → Act → World → Prop
  | 0, listed, a, w => Region.ready md ops listed = [] ∧ Q .normal a w
  | fuel + 1, listed, a, w =>
    (Region.ready md ops listed = [] → Q .normal a w) ∧
    ∀ i ∈ Region.ready md ops listed, wpOp P ops Q i (fun a' w' => S (listed.setIfInBounds i true) w' ∧ wpAnyS P md ops Q S fuel (listed.setIfInBounds i true) a' w') a w

theorem wpAny_of_S : ∀ (fuel : Nat) (listed : Array Bool) (a : Act) (w : World), wpAnyS P md ops Q S fuel listed a w → wpAny P md ops Q fuel listed a w
  | 0, _, _, _, h => h
  | fuel + 1, _, _, _, h => ⟨h.1, fun i hi => wpOp_mono (fun a' w' h' => wpAny_of_S fuel _ a' w' h'.2) (h.2 i hi)⟩

theorem wpAnyS_first {S' : World → Prop} {i : Nat} {oi : Oper} {v : Value} (hi : ops[i]? = some oi) (hsel : ∀ (j : Nat) (o : Oper) cs b, ops[j]? = some o → o.op ≠ .select cs b)
    (hQ : ∀ c a w, Q (.panic c) (a.put oi.dst v) w → Q (.panic c) a w)
    (hin : ∀ l w, (∀ k, Region.waitsFor md ops k i = true → l.getD k true = false) → S l w → S' w)
    (hio : ∀ l w, S (l.setIfInBounds i true) w ↔ S l w) :
    ∀ (fuel : Nat) (listed : Array Bool) (a : Act) (w : World),
      (∀ j oj, ops[j]? = some oj → j ≠ i → listed.getD j true = false → (∀ e ∈ oj.after, Region.binds md e = true → e.on ≠ i) → oi.apart ops oj = true) →
      (∀ k, Region.waitsFor md ops k i = true → listed.getD k true = false) →
      i ∈ Region.ready md ops listed → YieldsIf P ops S' oi v a → S listed w →
      wpAnyS P md ops Q S fuel (listed.setIfInBounds i true) (a.put oi.dst v) w → wpAnyS P md ops Q S (fuel + 1) listed a w := by
  intro fuel
  induction fuel with
  | zero =>
    intro listed a w _ hwt hr hy hS H
    refine ⟨fun h => (by rw [h] at hr; cases hr), fun j hj => ?_⟩
    by_cases hji : j = i
    · subst hji
      exact hy.wpOp hi (hin _ _ hwt hS) ⟨(hio _ _).2 hS, H⟩
    · have := ready_mono hj hji
      rw [H.1] at this
      cases this
  | succ fuel ih =>
    intro listed a w hfree hwt hr hy hS H
    refine ⟨fun h => (by rw [h] at hr; cases hr), fun j hj => ?_⟩
    by_cases hji : j = i
    · subst hji; exact hy.wpOp hi (hin _ _ hwt hS) ⟨(hio _ _).2 hS, H⟩
    · have h1 := H.2 j (ready_mono hj hji)
      obtain ⟨hjun, oj, hoj, hall⟩ := mem_ready.1 hj
      have hnot : ∀ e ∈ oj.after, Region.binds md e = true → e.on ≠ i := fun e he hb heq => by
        have h1 := hall e he hb
        have h0 := (mem_ready.1 hr).1
        rw [heq] at h1
        rcases Nat.lt_or_ge i listed.size with h' | h'
        · simp [h'] at h0 h1; rw [h0] at h1; cases h1
        · simp [Array.getElem?_eq_none h'] at h1
      have h2 := wpOp_putIf hoj (hfree j oj hoj hji hjun hnot) (fun cs b => hsel i oi cs b hi) (fun cs b => hsel j oj cs b hoj) hQ hy h1
      have hfree' : ∀ k ok, ops[k]? = some ok → k ≠ i → (listed.setIfInBounds j true).getD k true = false →
          (∀ e ∈ ok.after, Region.binds md e = true → e.on ≠ i) → oi.apart ops ok = true := fun k ok hk hki hun hno => by
        refine hfree k ok hk hki ?_ hno
        by_cases hjk : j = k
        · subst hjk; exact hjun
        · rw [getD_set_ne true hjk] at hun; exact hun
      have hwt' : ∀ k, Region.waitsFor md ops k i = true → (listed.setIfInBounds j true).getD k true = false := fun k hk => by
        have hjk : j ≠ k := by
          rintro rfl
          obtain ⟨o', ho', e, he, hb, hon⟩ := Region.waitsFor_spec hk
          have : o' = oj := Option.some.inj (ho'.symm.trans hoj)
          subst this
          exact hnot e he hb hon
        rw [getD_set_ne true hjk]; exact hwt k hk
      refine wpOp_mono (fun a' w' h3 => ?_) h2
      obtain ⟨hy', hS', H'⟩ := h3
      rw [Array.setIfInBounds_comm _ _ (Ne.symm hji)] at hS'
      have hS2 := (hio _ _).1 hS'
      refine ⟨hS2, ih (listed.setIfInBounds j true) a' w' hfree' hwt' (ready_mono hr (Ne.symm hji)) hy' hS2 ?_⟩
      rw [Array.setIfInBounds_comm _ _ hji]
      exact H'

/-- Take number i first. -/
theorem wpAnyS_take (S' : World → Prop) {i : Nat} {oi : Oper} {v : Value} {fuel : Nat} {listed : Array Bool} {a : Act} {w : World} (hi : ops[i]? = some oi)
    (hs : Region.noSelect ops = true) (hf : Region.free md ops listed i = true) (hr : (Region.ready md ops listed).contains i = true)
    (hQ : ∀ c a w, Q (.panic c) (a.put oi.dst v) w → Q (.panic c) a w)
    (hin : ∀ l w, (∀ k, Region.waitsFor md ops k i = true → l.getD k true = false) → S l w → S' w)
    (hio : ∀ l w, S (l.setIfInBounds i true) w ↔ S l w)
    (hwt : ((List.range ops.size).all fun k => !Region.waitsFor md ops k i || !listed.getD k true) = true)
    (hS : S listed w) (hy : ∀ w, S' w → (execOp a.eval oi).run P w = .ok (.value v) w) (hw : Region.wanted oi (yielded ops a.tmps) = true)
    (h : S (listed.setIfInBounds i true) w → wpAnyS P md ops Q S fuel (listed.setIfInBounds i true) (a.put oi.dst v) w) : wpAnyS P md ops Q S (fuel + 1) listed a w := by
  refine wpAnyS_first (S' := S') hi (Region.noSelect_spec hs) hQ hin hio fuel listed a w (Region.free_spec hi hf) (fun k hk => ?_) (by simpa using hr) (.inl ⟨hw, hy⟩) hS (h ((hio _ _).2 hS))
  obtain ⟨o', ho', _⟩ := Region.waitsFor_spec hk
  have h1 := List.all_eq_true.1 hwt k (List.mem_range.2 (Array.getElem?_eq_some_iff.1 ho').1)
  rw [hk] at h1
  simpa using h1
/-- The one that may come up comes up. -/
theorem wpAnyS_one {i : Nat} {o : Oper} {fuel : Nat} {listed : Array Bool} {a : Act} {w : World} (hr : Region.ready md ops listed = [i]) (ho : ops[i]? = some o)
    (h : ∀ K' : Act → World → Prop, Shut (∀ a w, S (listed.setIfInBounds i true) w → (S (listed.setIfInBounds i true) w → wpAnyS P md ops Q S fuel (listed.setIfInBounds i true) a w) → K' a w) →
      if Region.wanted o (yielded ops a.tmps) = true then Oper.wp P o a w K' Q else K' (a.put o.dst undef) w) : wpAnyS P md ops Q S (fuel + 1) listed a w := by
  refine ⟨fun h0 => (by rw [hr] at h0; cases h0), fun j hj => ?_⟩
  rw [hr] at hj
  have : j = i := by simpa using hj
  subst this
  exact wpOp_step ho (fun K' hK => h K' (fun a w hS hW => hK a w ⟨hS, hW hS⟩))
theorem wpAnyS_done {listed : Array Bool} {a : Act} {w : World} (hr : Region.ready md ops listed = []) (h : Q .normal a w) : ∀ fuel, wpAnyS P md ops Q S fuel listed a w
  | 0 => ⟨hr, h⟩
  | _ + 1 => ⟨fun _ => h, by rw [hr]; simp⟩
theorem wp_region_S {id : Nat} {a : Act} {w : World} (S : Array Bool → World → Prop) (hm : P.follows .mixedOrders = true) (hS : S (Array.replicate ops.size false) w.drew)
    (h : S (Array.replicate ops.size false) w.drew → wpAnyS P .any ops Q S ops.size (Array.replicate ops.size false) a w.drew) : (Code.region id ops true).wp P Q a w :=
  wp_region_any hm (wpAny_of_S _ _ _ _ (h hS))
end

/-- Each cell holds its value till number k, a store, has come up. -/
def Till (L : List (Nat × Addr × Value)) (l : Array Bool) (w : World) : Prop := ∀ x, x ∈ L → l.getD x.1 true = false → w.cell? x.2.1 = some x.2.2
theorem Till.out {L : List (Nat × Addr × Value)} {l : Array Bool} {w : World} (h : Till L l w) {k : Nat} {p : Addr} {v : Value} (hx : (k, p, v) ∈ L) (hk : l.getD k true = false) : w.cell? p = some v := h _ hx hk
theorem Till.io {L : List (Nat × Addr × Value)} {i : Nat} (h : (L.all fun x => x.1 != i) = true) (l : Array Bool) (w : World) : Till L (l.setIfInBounds i true) w ↔ Till L l w := by
  have e : ∀ x, x ∈ L → (l.setIfInBounds i true).getD x.1 true = l.getD x.1 true := fun x hx => by
    have h1 := List.all_eq_true.1 h x hx
    exact getD_set_ne true (fun e => by subst e; simp at h1)
  constructor
  · intro h x hx hk; exact h x hx ((e x hx).trans hk)
  · intro h x hx hk; exact h x hx ((e x hx).symm.trans hk)
theorem Till.same {L : List (Nat × Addr × Value)} {i : Nat} {l : Array Bool} {w w' : World} (h : Till L l w) (hl : (L.all fun x => x.1 != i) = true) (hc : ∀ p, w'.cell? p = w.cell? p) : Till L (l.setIfInBounds i true) w' :=
  (Till.io hl l w').2 fun x hx hk => (hc _).trans (h x hx hk)
theorem getD_set_same {l : Array Bool} {k : Nat} (h : k < l.size) : (l.setIfInBounds k true).getD k true = true := by simp [h]
theorem Till.two {k k' : Nat} {p p' : Addr} {v v' : Value} {l : Array Bool} {w : World} (h : w.cell? p = some v) (h' : w.cell? p' = some v') : Till [(k, p, v), (k', p', v')] l w := fun x hx _ => by
  rcases List.mem_cons.1 hx with rfl | hx
  · exact h
  · rcases List.mem_cons.1 hx with rfl | hx
    · exact h'
    · cases hx
/-- Behind the first store. -/
theorem Till.store1 {k k' : Nat} {p p' : Addr} {v v' : Value} {l : Array Bool} {w w' : World} (h : Till [(k, p, v), (k', p', v')] l w) (hlt : k < l.size) (hne : k ≠ k') (hc : w'.cell? p' = w.cell? p') : Till [(k, p, v), (k', p', v')] (l.setIfInBounds k true) w' := fun x hx hk => by
  rcases List.mem_cons.1 hx with rfl | hx
  · rw [getD_set_same hlt] at hk; cases hk
  · rcases List.mem_cons.1 hx with rfl | hx
    · rw [getD_set_ne true hne] at hk
      exact hc.trans (h (k', p', v') (by simp) hk)
    · cases hx
/-- Behind the second one. -/
theorem Till.store2 {k k' : Nat} {p p' : Addr} {v v' : Value} {l : Array Bool} {w : World} (hk0 : l.getD k true = true) (hlt : k' < l.size) : Till [(k, p, v), (k', p', v')] (l.setIfInBounds k' true) w := fun x hx hk => by
  rcases List.mem_cons.1 hx with rfl | hx
  · by_cases e : k' = k
    · subst e; rw [getD_set_same hlt] at hk; cases hk
    · rw [getD_set_ne true e, hk0] at hk; cases hk
  · rcases List.mem_cons.1 hx with rfl | hx
    · rw [getD_set_same hlt] at hk; cases hk
    · cases hx
end Go.Proofs.YtpmfmkpfjomgnaaGreatDoor
