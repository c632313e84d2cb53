/- Words for objects in memory: blocks known whole, what a call may turn, rows and maps of an object's own. -/
import Derived.Test.YtciogfpejenedaaGreatDoorRows
import Derived.WalkKit
import Derived.WalkSpells
import Derived.WalkLawsBesides
import Derived.Lib.Hide
import Derived.Deep.Light
import Derived.Deep.Draws
import Derived.Maps.OwnSet
import Derived.Maps.AppendAt
import Derived.Deep.QuietTactic
import Derived.BigQuiet
import Derived.Deep.RegionLaw
import Derived.StillTailTactics
namespace Go.Proofs.YtciogfpejenedaaGreatDoor
set_option linter.unusedSimpArgs false
set_option linter.unusedVariables false
open Go.RowKit

/-- Block g is just these cells, of element type t, none of them frozen. -/
def Blk (w : World) (g : Nat) (t : TypeId) (cs : Array Value) : Prop := w.heap[g]? = some (.cells cs t (0, 0))

/-- Of what was there, nothing has turned but the blocks of F. -/
structure Turned (F : List Nat) (w w' : World) : Prop where
  os : w'.os = w.os
  tape : w'.tape = w.tape
  output : w'.output = w.output
  size : w.heap.size ≤ w'.heap.size
  block : ∀ k, k < w.heap.size → k ∉ F → w'.heap[k]? = w.heap[k]?

/-- The blocks of F' are blocks of F, or new ones. -/
def Fresh (w : World) (F F' : List Nat) : Prop := ∀ k, k ∈ F' → k ∈ F ∨ w.heap.size ≤ k

/-- Two objects share no block. -/
def Apart (F G : List Nat) : Prop := ∀ k, k ∈ F → k ∉ G

section
variable {w w' w'' : World} {F G F' G' : List Nat}
theorem Turned.refl (F : List Nat) (w : World) : Turned F w w := ⟨rfl, rfl, rfl, Nat.le_refl _, fun _ _ _ => rfl⟩
theorem Turned.trans (h : Turned F w w') (k : Turned F' w' w'') (hf : Fresh w F F') : Turned F w w'' :=
  ⟨k.os.trans h.os, k.tape.trans h.tape, k.output.trans h.output, Nat.le_trans h.size k.size, fun i hi hn =>
    (k.block i (Nat.lt_of_lt_of_le hi h.size) (fun hm => by rcases hf i hm with h1 | h1 <;> first | exact hn h1 | omega)).trans (h.block i hi hn)⟩
theorem Turned.more (h : Turned F w w') (hf : ∀ k, k ∈ F → k ∈ F') : Turned F' w w' := ⟨h.os, h.tape, h.output, h.size, fun k hk hn => h.block k hk (fun hm => hn (hf k hm))⟩
theorem Turned.drew (h : Turned F w w') : Turned F w w'.drew := ⟨h.os, h.tape, h.output, h.size, h.block⟩
theorem Turned.drewN (h : Turned F w w') (n : Nat) : Turned F w (w'.drewN n) := ⟨h.os, h.tape, h.output, h.size, h.block⟩
theorem Turned.from_drewN {n : Nat} (h : Turned F (w.drewN n) w') : Turned F w w' := ⟨h.os, h.tape, h.output, h.size, h.block⟩
theorem Turned.alloc (h : Turned F w w') (o : Obj) : Turned F w (w'.alloc o) :=
  ⟨h.os, h.tape, h.output, Nat.le_trans h.size (by simp), fun i hi hn => (Below.heap_alloc w' o i (Nat.lt_of_lt_of_le hi h.size)).trans (h.block i hi hn)⟩
theorem Turned.setCell (h : Turned F w w') {p : Addr} (hp : p.block ∈ F ∨ w.heap.size ≤ p.block) (u : Value) : Turned F w (w'.setCell p u) :=
  ⟨h.os, h.tape, h.output, by simpa [World.setCell] using h.size, fun i hi hn => (Below.heap_setCell w' p u i (by
    rintro rfl
    rcases hp with hp | hp
    · exact hn hp
    · omega)).trans (h.block i hi hn)⟩
theorem Turned.grown {row : Option Nat} (h : Turned F w w') (hg : w'.grownBy w'' row) (hr : ∀ k, row = some k → k ∈ F ∨ w.heap.size ≤ k) : Turned F w w'' :=
  ⟨hg.os.trans h.os, hg.tape.trans h.tape, hg.output.trans h.output, Nat.le_trans h.size hg.size, fun i hi hn =>
    (hg.block i (Nat.lt_of_lt_of_le hi h.size) (fun e => by rcases hr i e.symm with h1 | h1 <;> first | exact hn h1 | omega)).trans (h.block i hi hn)⟩
theorem Turned.below_ (h : Turned F w w') (hb : Below w'.heap.size w' w'') : Turned F w w'' :=
  ⟨hb.os.trans h.os, hb.tape.trans h.tape, hb.output.trans h.output, Nat.le_trans h.size hb.size, fun i hi hn => (hb.block i (Nat.lt_of_lt_of_le hi h.size)).trans (h.block i hi hn)⟩
theorem Turned.below (h : Turned F w w') {B : Nat} (hF : ∀ k, k ∈ F → B ≤ k) (hB : B ≤ w.heap.size) : Below B w w' :=
  ⟨h.os, h.tape, h.output, h.size, fun k hk => h.block k (by omega) (fun hm => by have := hF k hm; omega)⟩
theorem Turned.of_below (hb : Below w.heap.size w w') (F : List Nat) : Turned F w w' := ⟨hb.os, hb.tape, hb.output, hb.size, fun k hk _ => hb.block k hk⟩
theorem Turned.of_nil (h : Turned [] w w') : Below w.heap.size w w' := h.below (fun k hk => by cases hk) (Nat.le_refl _)
theorem Turned.grownBy (h : Turned F w w') {row : Option Nat} (hF : ∀ k, k ∈ F → some k = row) : w.grownBy w' row := ⟨h.os, h.tape, h.output, h.size, fun k hk hn => h.block k hk (fun hm => hn (hF k hm))⟩

theorem Fresh.refl (w : World) (F : List Nat) : Fresh w F F := fun _ h => .inl h
theorem Fresh.trans (h : Fresh w F F') (ht : w.heap.size ≤ w'.heap.size) (k : Fresh w' F' G) : Fresh w F G := fun i hi => by
  rcases k i hi with h1 | h1
  · exact h i h1
  · exact .inr (by omega)
theorem Fresh.apart (h : Fresh w F F') (ha : Apart F G) (hg : ∀ k, k ∈ G → k < w.heap.size) : Apart F' G := fun k hk hkg => by
  rcases h k hk with h1 | h1
  · exact ha k h1 hkg
  · have := hg k hkg; omega
theorem Apart.symm (h : Apart F G) : Apart G F := fun k hk hf => h k hf hk
theorem Apart.new (hF : ∀ k, k ∈ F → w.heap.size ≤ k) (hG : ∀ k, k ∈ G → k < w.heap.size) : Apart F G := fun k hk hg => by have := hF k hk; have := hG k hg; omega

/-! Blocks known whole. -/
variable {g g' : Nat} {t t' : TypeId} {cs cs' : Array Value}
theorem Blk.lt (h : Blk w g t cs) : g < w.heap.size := (Array.getElem?_eq_some_iff.1 h).1
theorem Blk.cell (h : Blk w g t cs) (i : Nat) : w.cell? ⟨g, i, none⟩ = cs[i]? := cell_of_row w g i cs t (0, 0) h
theorem Blk.free (h : Blk w g t cs) (i : Nat) : w.frozen? ⟨g, i, none⟩ = false := by
  have h' : w.heap[g]? = some (.cells cs t (0, 0)) := h
  simp [World.frozen?, h']
theorem Blk.new (w : World) (t : TypeId) (cs : Array Value) : Blk (w.alloc (.cells cs t)) w.heap.size t cs := heap_alloc_new w _
theorem Blk.drew (h : Blk w g t cs) : Blk w.drew g t cs := h
theorem Blk.drewN (h : Blk w g t cs) (n : Nat) : Blk (w.drewN n) g t cs := h
theorem Blk.alloc (h : Blk w g t cs) (o : Obj) : Blk (w.alloc o) g t cs := (Below.heap_alloc w o g h.lt).trans h
theorem Blk.set_ (h : Blk w g t cs) (i : Nat) (u : Value) : Blk (w.setCell ⟨g, i, none⟩ u) g t (cs.setIfInBounds i u) := by
  have h' : w.heap[g]? = some (.cells cs t (0, 0)) := h
  unfold Blk
  simp [World.setCell, Array.getElem?_modify, h']
theorem Blk.far (h : Blk w g t cs) {p : Addr} (hp : g ≠ p.block) (u : Value) : Blk (w.setCell p u) g t cs := (Below.heap_setCell w p u g hp).trans h
theorem Blk.turned (h : Blk w g t cs) (ht : Turned F w w') (hg : g ∉ F) : Blk w' g t cs := (ht.block g h.lt hg).trans h
theorem Blk.grown {row : Option Nat} (h : Blk w g t cs) (hb : w.grownBy w' row) (hg : some g ≠ row) : Blk w' g t cs := (hb.block g h.lt hg).trans h
theorem Blk.below {B : Nat} (h : Blk w g t cs) (hb : Below B w w') (hg : g < B) : Blk w' g t cs := (hb.block g hg).trans h
theorem Blk.kind (h : Blk w g t cs) (h' : Blk w g' t' cs') (hne : t ≠ t') : g ≠ g' := by
  rintro rfl
  have e : some (Obj.cells cs t (0, 0)) = some (Obj.cells cs' t' (0, 0)) := Eq.trans (Eq.symm h) h'
  injection e with e
  injection e with _ e2
  exact hne e2

/-! Rows of an object's own. -/
variable {base size n : Nat} {e : TypeId} {v : Value} {xs : List Value}
theorem own_turned (h : w.ownsRow base e size v n xs) (ht : Turned F w w') (hn : ∀ k, v.ownBlock = some k → k ∉ F) : w'.ownsRow base e size v n xs := by
  refine ⟨h.1, ?_⟩
  rcases h.2 with h2 | ⟨g, cap, cur, rfl, hb, hg, rest⟩
  · exact .inl h2
  · exact .inr ⟨g, cap, cur, rfl, hb, (ht.block g (Array.getElem?_eq_some_iff.1 hg).1 (hn g rfl)).trans hg, rest⟩
theorem own_setCell (h : w.ownsRow base e size v n xs) {p : Addr} (hp : v.ownBlock ≠ some p.block) (u : Value) : (w.setCell p u).ownsRow base e size v n xs := by
  refine ⟨h.1, ?_⟩
  rcases h.2 with h2 | ⟨g, cap, cur, rfl, hb, hg, rest⟩
  · exact .inl h2
  · exact .inr ⟨g, cap, cur, rfl, hb, (Below.heap_setCell w p u g (fun e => hp (by rw [← e]; rfl))).trans hg, rest⟩
theorem own_drew' (h : w.ownsRow base e size v n xs) : w.drew.ownsRow base e size v n xs := h
theorem own_drewN' (h : w.ownsRow base e size v n xs) (k : Nat) : (w.drewN k).ownsRow base e size v n xs := h
theorem own_kind (h : w.ownsRow base e size v n xs) (hg : Blk w g t cs) (hne : e ≠ t) : v.ownBlock ≠ some g := by
  rcases h.2 with ⟨rfl, _⟩ | ⟨g', cap, cur, rfl, _, hh, _⟩
  · simp [Value.ownBlock]
  · intro he
    have hg' : g' = g := by simpa [Value.ownBlock] using he
    subst hg'
    exact Blk.kind (t := e) hh hg hne rfl
theorem own_kinds {base' size' n' : Nat} {e' : TypeId} {v' : Value} {xs' : List Value} (h : w.ownsRow base e size v n xs) (h' : w.ownsRow base' e' size' v' n' xs') (hne : e ≠ e') {k : Nat} (hk : v.ownBlock = some k) : v'.ownBlock ≠ some k := by
  rcases h.2 with ⟨rfl, _⟩ | ⟨g', cap, cur, rfl, _, hh, _⟩
  · simp [Value.ownBlock] at hk
  · have hg' : g' = k := by simpa [Value.ownBlock] using hk
    subst hg'
    exact own_kind h' (show Blk w g' e cur from hh) (Ne.symm hne)
theorem own_lt (h : w.ownsRow base e size v n xs) {k : Nat} (hk : v.ownBlock = some k) : k < w.heap.size := (h.lt k hk).2
theorem own_base' {base' : Nat} (h : w.ownsRow base e size v n xs) (hb : base' ≤ base) : w.ownsRow base' e size v n xs :=
  ⟨h.1, h.2.imp id fun ⟨g, cap, cur, h1, h2, r⟩ => ⟨g, cap, cur, h1, by omega, r⟩⟩
theorem own_form' (h : w.ownsRow base e size v n xs) : ∃ A c, v = .slice A n c ∧ n ≤ c ∧ c ≤ maxLen := by
  rcases h.2 with ⟨rfl, rfl⟩ | ⟨g, cap, cur, rfl, _, _, h1, h2, _⟩
  · exact ⟨none, 0, rfl, Nat.le_refl _, by simp [maxLen]⟩
  · exact ⟨_, cap, rfl, h1, h2⟩
theorem own_at_ {A : Option Addr} {m c : Nat} (h : w.ownsRow base e 1 (.slice A m c) n xs) {k : Nat} {u : Value} (hk : xs[k]? = some u) : ∃ b, A = some ⟨b, 0, none⟩ ∧ w.cell? ⟨b, k, none⟩ = some u := by
  rcases h.2 with ⟨hv, rfl⟩ | ⟨g, cap, cur, hv, _, hg, _, _, _, ht⟩
  · have : xs = [] := List.eq_nil_of_length_eq_zero (by have := h.1; omega)
    subst this; simp at hk
  · injection hv with h1 h2 h3
    subst h1
    refine ⟨g, rfl, ?_⟩
    rw [cell_of_row w g k cur e (0, 0) hg]
    rw [← ht, List.getElem?_take] at hk
    split at hk
    · simpa using hk
    · cases hk
theorem own_ats {A : Option Addr} {m c : Nat} (h : w.ownsRow base e size (.slice A m c) n xs) {k : Nat} {u : Value} (hk : xs[k]? = some u) : ∃ b, A = some ⟨b, 0, none⟩ ∧ w.cell? ⟨b, k, none⟩ = some u := by
  rcases h.2 with ⟨hv, rfl⟩ | ⟨g, cap, cur, hv, _, hg, _, _, _, ht⟩
  · have : xs = [] := List.eq_nil_of_length_eq_zero (by have := h.1; simpa using this)
    subst this; simp at hk
  · injection hv with h1 h2 h3
    subst h1
    refine ⟨g, rfl, ?_⟩
    rw [cell_of_row w g k cur e (0, 0) hg]
    rw [← ht, List.getElem?_take] at hk
    split at hk
    · simpa using hk
    · cases hk

/-! Maps of an object's own: block and reading. -/
section
variable {P : Program} {k : TypeId} {R : Value → Option (DataW Unit × List MemPlace)} {b m : Nat} {D : DataW Unit}
theorem map_turned (h : w.ownsMap P k R b m D) (ht : Turned F w w') (hb : b ∉ F) : w'.ownsMap P k R b m D := by
  have hlt := h.lt
  obtain ⟨es, clock, hh, r⟩ := h
  exact ⟨es, clock, (ht.block b hlt hb).trans hh, r⟩
theorem map_kind (h : w.ownsMap P k R b m D) (hg : Blk w g t cs) : b ≠ g := by
  rintro rfl
  obtain ⟨es, clock, hh, _⟩ := h
  have e : some (Obj.map es clock) = some (Obj.cells cs t (0, 0)) := Eq.trans (Eq.symm hh) hg
  injection e with e
  cases e
theorem map_own (h : w.ownsMap P k R b m D) (ho : w.ownsRow base e size v n xs) : v.ownBlock ≠ some b := by
  rcases ho.2 with ⟨rfl, _⟩ | ⟨g', cap, cur, rfl, _, hh, _⟩
  · simp [Value.ownBlock]
  · intro he
    have hg' : g' = b := by simpa [Value.ownBlock] using he
    subst hg'
    exact map_kind h (show Blk w g' e cur from hh) rfl
theorem map_drewN (h : w.ownsMap P k R b m D) (j : Nat) : (w.drewN j).ownsMap P k R b m D := h
end
end

/-! An entry of a map that is written out. -/
theorem wpList_insert_own {H : Type} {P : Program} (w : World) {ops : Array Oper} {rest : List Oper} {o : Oper} {a : Act} {Q : Exit → Act → World → Prop}
    (hg : o.guard = none) (m x v : Operand) (t : TypeId) (hop : o.op = Op.insert t m x v)
    (k e : TypeId) (K : Maps.Keyed P k) (ht : P.underlying t = some (.map k e)) (R : Value → Option (DataW H × List MemPlace)) (b n : Nat) (D : DataW H)
    (hm : a.eval m = .map (some b)) (hown : w.ownsMap P k R b n D) (hn : n < maxLen) (key val : Value) (kl : Lit) (hx : a.eval x = key) (hv : a.eval v = val) (hkey : keyOf P k key = some kl)
    (d : DataW H) (ps : List MemPlace) (hval : R val = some (d, ps))
    (hK : ∀ w', w'.ownsMap P k R b (n + 1) (D.put kl d) → w.grownBy w' (some b) → wpList P ops Q rest (a.put o.dst undef) w') :
    wpList P ops Q (o :: rest) a w := by
  refine wpList_plain hg fun K' hK' => ?_
  obtain ⟨w', hrun, r1, r2⟩ := hown.update K ht hn hkey hval
  unfold Oper.wp
  simp [execOp, hop, hm, hx, hv, hrun, Result.andThen]
  exact hK' _ _ (hK w' r1 r2)

/-! A map from keys of a kind to integers, as a function. -/
section
variable {α : Type}
def Agrees (kd : α → Lit) (ok : α → Prop) (D : DataW Unit) (f : α → Option Int) : Prop :=
  Maps.IsMap D ∧ ∀ a, ok a → Maps.has D (kd a) = (f a).isSome ∧ D.atKey (kd a) (.lit (.int .i64 0)) = .lit (.int .i64 ((f a).getD 0))
theorem Agrees.none_ (kd : α → Lit) (ok : α → Prop) : Agrees kd ok (.map []) (fun _ => none) := ⟨Maps.isMap_empty, fun _ _ => ⟨rfl, rfl⟩⟩
theorem Agrees.put [DecidableEq α] {kd : α → Lit} {ok : α → Prop} (inj : ∀ a b, ok a → ok b → kd a = kd b → a = b) {D : DataW Unit} {f : α → Option Int} (h : Agrees kd ok D f) (a : α) (ha : ok a) (hk : WideAt.IsKeyLit (kd a)) (c : Int) :
    Agrees kd ok (D.put (kd a) (.lit (.int .i64 c))) (fun b => if b = a then some c else f b) := by
  refine ⟨h.1.put _ _, fun b hbo => ?_⟩
  by_cases hb : b = a
  · subst hb
    simp only [if_pos rfl]
    exact ⟨Maps.has_put_same h.1 hk _, Maps.atKey_put_same h.1 hk _ _⟩
  · simp only [if_neg hb]
    have hne : kd b ≠ kd a := fun e => hb (inj _ _ hbo ha e)
    exact ⟨(Maps.has_put_other hne _).trans (h.2 b hbo).1, (Maps.atKey_put_other hne _ _).trans (h.2 b hbo).2⟩
theorem Agrees.congr {kd : α → Lit} {ok : α → Prop} {D : DataW Unit} {f g : α → Option Int} (h : Agrees kd ok D f) (e : ∀ a, f a = g a) : Agrees kd ok D g := ⟨h.1, fun a ha => by rw [← e a]; exact h.2 a ha⟩
theorem Agrees.has {kd : α → Lit} {ok : α → Prop} {D : DataW Unit} {f : α → Option Int} (h : Agrees kd ok D f) (a : α) (ha : ok a) : Maps.has D (kd a) = (f a).isSome := (h.2 a ha).1
theorem Agrees.at_ {kd : α → Lit} {ok : α → Prop} {D : DataW Unit} {f : α → Option Int} (h : Agrees kd ok D f) (a : α) (ha : ok a) {c : Int} (hc : D.atKey (kd a) (.lit (.int .i64 0)) = .lit (.int .i64 c)) : c = (f a).getD 0 := by
  have := (h.2 a ha).2
  rw [hc] at this
  injection this with this
  injection this with _ this

variable [DecidableEq α]
/-- Where a thing stands first in a list. -/
def ix : List α → α → Option Nat
  | [], _ => none
  | b :: r, a => if b = a then some 0 else (ix r a).map (· + 1)
theorem ix_some {l : List α} {a : α} {k : Nat} (h : ix l a = some k) : l[k]? = some a := by
  induction l generalizing k with
  | nil => cases h
  | cons b r ih =>
    unfold ix at h
    split at h
    · rename_i hb; injection h with h; subst h; subst hb; rfl
    · cases hr : ix r a with
      | none => rw [hr] at h; cases h
      | some j => rw [hr] at h; injection h with h; subst h; exact ih hr
theorem ix_lt {l : List α} {a : α} {k : Nat} (h : ix l a = some k) : k < l.length := (List.getElem?_eq_some_iff.1 (ix_some h)).1
theorem ix_none {l : List α} {a : α} : ix l a = none ↔ a ∉ l := by
  induction l with
  | nil => simp [ix]
  | cons b r ih =>
    unfold ix
    by_cases hb : b = a
    · simp [hb]
    · rw [if_neg hb]
      simp [ih, Ne.symm hb]
theorem ix_snoc (l : List α) (b a : α) : ix (l ++ [b]) a = (ix l a).or (if b = a then some l.length else none) := by
  induction l with
  | nil => by_cases hb : b = a <;> simp [ix, hb]
  | cons x r ih =>
    rw [List.cons_append]
    unfold ix
    by_cases hx : x = a
    · simp [hx]
    · rw [if_neg hx, if_neg hx, ih]
      cases ix r a with
      | none => by_cases hb : b = a <;> simp [hb]
      | some j => simp
theorem ix_get {l : List α} (hn : l.Nodup) {k : Nat} {a : α} (h : l[k]? = some a) : ix l a = some k := by
  induction l generalizing k with
  | nil => cases h
  | cons b r ih =>
    cases k with
    | zero => injection h with h; subst h; simp [ix]
    | succ k =>
      have h' : r[k]? = some a := by simpa using h
      have hne : b ≠ a := by
        rintro rfl
        exact (List.nodup_cons.1 hn).1 (List.mem_of_getElem? h')
      unfold ix
      rw [if_neg hne, ih (List.nodup_cons.1 hn).2 h']
      rfl
end

theorem ix_first {α : Type} [DecidableEq α] {l : List α} {a : α} {k : Nat} (h : l[k]? = some a) (hn : ∀ j x, j < k → l[j]? = some x → x ≠ a) : ix l a = some k := by
  induction l generalizing k with
  | nil => cases h
  | cons b r ih =>
    cases k with
    | zero => injection h with h; subst h; simp [ix]
    | succ k =>
      have hne : b ≠ a := hn 0 b (by omega) rfl
      unfold ix
      rw [if_neg hne, ih (k := k) (by simpa using h) (fun j x hj hx => hn (j + 1) x (by omega) (by simpa using hx))]
      rfl
theorem ix_absent {α : Type} [DecidableEq α] {l : List α} {a : α} (hn : ∀ j x, j < l.length → l[j]? = some x → x ≠ a) : ix l a = none :=
  ix_none.2 fun hm => by
    obtain ⟨j, hj⟩ := List.mem_iff_getElem?.1 hm
    exact hn j a (List.getElem?_eq_some_iff.1 hj).1 hj rfl

/-- .. as an integer. -/
def ixI {α : Type} [DecidableEq α] (l : List α) (a : α) : Option Int := (ix l a).map Int.ofNat

/-! Texts as keys. -/
def kdS (s : ByteArray) : Lit := .string s.data.toList
theorem kdS_inj (a b : ByteArray) (h : kdS a = kdS b) : a = b := by
  unfold kdS at h
  injection h with h
  obtain ⟨⟨l⟩⟩ := a
  obtain ⟨⟨m⟩⟩ := b
  simp at h
  subst h
  rfl
theorem kdS_key (s : ByteArray) : WideAt.IsKeyLit (kdS s) := trivial


theorem below_drewN' {B : Nat} {a w : World} (h : Below B a w) (n : Nat) : Below B a (w.drewN n) := ⟨h.os, h.tape, h.output, h.size, h.block⟩

theorem cells_new (w : World) (us : Array Value) (t : TypeId) : ∀ j u, us.toList[j]? = some u → (w.alloc (.cells us t)).cell? ((⟨w.heap.size, 0, none⟩ : Addr).add j) = some u := fun j u hu => by
  have e : (⟨w.heap.size, 0, none⟩ : Addr).add j = ⟨w.heap.size, j, none⟩ := by unfold Addr.add; split <;> simp_all
  rw [e, (Blk.new w t us).cell j]
  rwa [Array.getElem?_toList] at hu
theorem Blk.new' {w : World} {g : Nat} {t : TypeId} {cs : Array Value} (h : w.heap.size = g) : Blk (w.alloc (.cells cs t)) g t cs := h ▸ heap_alloc_new w _
theorem cells_at {w : World} {g : Nat} {t : TypeId} {us : Array Value} (h : Blk w g t us) {xs : List Value} (hx : us.toList = xs) : ∀ j u, xs[j]? = some u → w.cell? ((⟨g, 0, none⟩ : Addr).add j) = some u := fun j u hu => by
  have e : (⟨g, 0, none⟩ : Addr).add j = ⟨g, j, none⟩ := by unfold Addr.add; split <;> simp_all
  rw [e, h.cell j]
  rwa [← hx, Array.getElem?_toList] at hu

/-- An append in a region that draws its order. -/
theorem step_append_at {P : Program} {w : World} {ops : Array Oper} {o : Oper} {a : Act} {K : Act → World → Prop} {Q : Exit → Act → World → Prop} {E : Prop} (hgd : o.guard = none) (s x : Operand) (t : TypeId)
    (ho : o.op = .call { callee := .builtin .append, args := #[s, x], argTypes := #[t, t] })
    (base : Nat) (e : TypeId) (i : TypeInfo) (z : Value) (size bytes : Nat) (ht : P.underlying t = some (.slice e)) (hi : P.info? e = some i) (hz : i.zero = some z)
    (hsize : i.size = size) (hby : i.bytes = bytes) (hzs : z.cells.size = size) (hsz : 0 < size)
    (v : Value) (n : Nat) (xs : List Value) (hs : a.eval s = v) (hown : w.ownsRow base e size v n xs)
    (ad : Addr) (m c : Nat) (news : List Value) (hx : a.eval x = .slice (some ad) m c) (hl : news.length = m * size) (hnews : ∀ j u, news[j]? = some u → w.cell? (ad.add j) = some u) (h1 : ∀ u ∈ news, u.oneCell' = true)
    (h63 : n + m ≤ maxLen) (hbytes : (n + m) * bytes ≤ 140737488355328) (hbase : base ≤ w.heap.size)
    (h : ∀ v' w', w'.ownsRow base e size v' (n + m) (xs ++ news) → w.grownBy w' v.ownBlock → (v'.ownBlock = v.ownBlock ∨ v'.ownBlock = some w.heap.size) → K (a.put o.dst v') w') :
    if Region.wanted o (yielded ops a.tmps) = true then Oper.wp P o a w K Q else E := by
  have hw : Region.wanted o (yielded ops a.tmps) = true := by simp [Region.wanted, hgd]
  rw [if_pos hw]
  obtain ⟨v', w', hr, h2, h3, _, h5⟩ := run_append_own_at (P := P) w base t o.type e i z size bytes ht hi hz hsize hby hzs hsz v n xs hown ad m c news hl hnews h1 h63 hbytes hbase
  unfold Oper.wp execOp
  simp only [ho, resolve, invoke, builtin, Sem.run_bind, Sem.run_pure, Result.andThen_ok, List.map_toArray, List.map_cons, List.map_nil, hs, hx, hr]
  exact h v' w' h2 h3 h5
/-- A store into a map in a region that draws its order. -/
theorem step_mapUpdate_own {H : Type} {P : Program} {w : World} {ops : Array Oper} {o : Oper} {a : Act} {K : Act → World → Prop} {Q : Exit → Act → World → Prop} {E : Prop}
    (hg : o.guard = none) (m x v : Operand) (t : TypeId) (hop : o.op = Op.mapUpdate t m x v)
    (k e : TypeId) (KL : Maps.Keyed P k) (ht : P.underlying t = some (.map k e)) (R : Value → Option (DataW H × List MemPlace)) (b n : Nat) (D : DataW H)
    (hm : a.eval m = .map (some b)) (hown : w.ownsMap P k R b n D) (hn : n < maxLen) (key val : Value) (kl : Lit) (hx : a.eval x = key) (hv : a.eval v = val) (hkey : keyOf P k key = some kl)
    (d : DataW H) (ps : List MemPlace) (hval : R val = some (d, ps))
    (hK : ∀ w', w'.ownsMap P k R b (n + 1) (D.put kl d) → w.grownBy w' (some b) → K (a.put o.dst undef) w') :
    if Region.wanted o (yielded ops a.tmps) = true then Oper.wp P o a w K Q else E := by
  have hw : Region.wanted o (yielded ops a.tmps) = true := by simp [Region.wanted, hg]
  rw [if_pos hw]
  obtain ⟨w', hrun, r1, r2⟩ := hown.update KL ht hn hkey hval
  unfold Oper.wp
  simp [execOp, hop, hm, hx, hv, hrun, Result.andThen]
  exact hK w' r1 r2

/-! Four results. -/
theorem results4 {fn : Func} {t u v x : Tmp} (h : fn.results = #[.tmp t, .tmp u, .tmp v, .tmp x]) (tmps : Array Value) (P : Program) (w : World) :
    (results fn tmps).run P w = .ok (.tuple #[tmps.getD t undef, tmps.getD u undef, tmps.getD v undef, tmps.getD x undef]) w := by simp [results, h]

theorem str_ne {a b : ByteArray} (h : a ≠ b) : (a.toList == b.toList) = false := beq_eq_false_iff_ne.2 fun e => h (kdS_inj a b (by rw [kdS, kdS, ← ByteArray.toList_eq, ← ByteArray.toList_eq, e]))
def i64s (zs : List Int) : List Value := zs.map (Value.int .i64)

end Go.Proofs.YtciogfpejenedaaGreatDoor
