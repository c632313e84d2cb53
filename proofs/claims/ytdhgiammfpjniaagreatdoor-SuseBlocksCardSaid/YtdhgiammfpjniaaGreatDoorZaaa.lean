/- Words for objects in memory: blocks known whole, what a call may turn, rows and maps of an object's own. What a law's arguments are, and how a walk that turns nothing of what was there proves the law. -/
import Derived.Test.YtdhgiammfpjniaaGreatDoorRows
import Derived.WalkKit
import Derived.WalkSpells
import Derived.WalkLawsBesides
import Derived.Lib.Hide
import Derived.Deep.Light
import Derived.Deep.Draws
import Derived.Maps.OwnSet
import Derived.Maps.AppendAt
import Derived.Deep.QuietTactic
import Derived.BigQuiet
import Derived.Deep.RegionLaw
import Derived.StillTailTactics
import Derived.ProofKit
import Derived.OpenShut
import Derived.ShutString
import Derived.ChangeOld
import Derived.SizedLaws
import Derived.JoinedCond
import Derived.SliceStrings
import Derived.Laws.IdiomArrays
import Derived.Deep.Slices
import Derived.Deep.Fields
/- Words for objects in memory: blocks known whole, what a call may turn, rows and maps of an object's own. -/
namespace Go.Proofs.YtdhgiammfpjniaaGreatDoor
set_option linter.unusedSimpArgs false
set_option linter.unusedVariables false
open Go.RowKit

/-- Block g is just these cells, of element type t, none of them frozen. -/
def Blk (w : World) (g : Nat) (t : TypeId) (cs : Array Value) : Prop := w.heap[g]? = some (.cells cs t (0, 0))

/-- Of what was there, nothing has turned but the blocks of F. -/
structure Turned (F : List Nat) (w w' : World) : Prop where
  os : w'.os = w.os
  tape : w'.tape = w.tape
  output : w'.output = w.output
  size : w.heap.size ≤ w'.heap.size
  block : ∀ k, k < w.heap.size → k ∉ F → w'.heap[k]? = w.heap[k]?

/-- The blocks of F' are blocks of F, or new ones. -/
def Fresh (w : World) (F F' : List Nat) : Prop := ∀ k, k ∈ F' → k ∈ F ∨ w.heap.size ≤ k

/-- Two objects share no block. -/
def Apart (F G : List Nat) : Prop := ∀ k, k ∈ F → k ∉ G

section
variable {w w' w'' : World} {F G F' G' : List Nat}
theorem Turned.refl (F : List Nat) (w : World) : Turned F w w := ⟨rfl, rfl, rfl, Nat.le_refl _, fun _ _ _ => rfl⟩
theorem Turned.trans (h : Turned F w w') (k : Turned F' w' w'') (hf : Fresh w F F') : Turned F w w'' :=
  ⟨k.os.trans h.os, k.tape.trans h.tape, k.output.trans h.output, Nat.le_trans h.size k.size, fun i hi hn =>
    (k.block i (Nat.lt_of_lt_of_le hi h.size) (fun hm => by rcases hf i hm with h1 | h1 <;> first | exact hn h1 | omega)).trans (h.block i hi hn)⟩
theorem Turned.more (h : Turned F w w') (hf : ∀ k, k ∈ F → k ∈ F') : Turned F' w w' := ⟨h.os, h.tape, h.output, h.size, fun k hk hn => h.block k hk (fun hm => hn (hf k hm))⟩
theorem Turned.drew (h : Turned F w w') : Turned F w w'.drew := ⟨h.os, h.tape, h.output, h.size, h.block⟩
theorem Turned.drewN (h : Turned F w w') (n : Nat) : Turned F w (w'.drewN n) := ⟨h.os, h.tape, h.output, h.size, h.block⟩
theorem Turned.alloc (h : Turned F w w') (o : Obj) : Turned F w (w'.alloc o) :=
  ⟨h.os, h.tape, h.output, Nat.le_trans h.size (by simp), fun i hi hn => (Below.heap_alloc w' o i (Nat.lt_of_lt_of_le hi h.size)).trans (h.block i hi hn)⟩
theorem Turned.setCell (h : Turned F w w') {p : Addr} (hp : p.block ∈ F ∨ w.heap.size ≤ p.block) (u : Value) : Turned F w (w'.setCell p u) :=
  ⟨h.os, h.tape, h.output, by simpa [World.setCell] using h.size, fun i hi hn => (Below.heap_setCell w' p u i (by
    rintro rfl
    rcases hp with hp | hp
    · exact hn hp
    · omega)).trans (h.block i hi hn)⟩
theorem Turned.grown {row : Option Nat} (h : Turned F w w') (hg : w'.grownBy w'' row) (hr : ∀ k, row = some k → k ∈ F ∨ w.heap.size ≤ k) : Turned F w w'' :=
  ⟨hg.os.trans h.os, hg.tape.trans h.tape, hg.output.trans h.output, Nat.le_trans h.size hg.size, fun i hi hn =>
    (hg.block i (Nat.lt_of_lt_of_le hi h.size) (fun e => by rcases hr i e.symm with h1 | h1 <;> first | exact hn h1 | omega)).trans (h.block i hi hn)⟩
theorem Turned.below_ (h : Turned F w w') (hb : Below w'.heap.size w' w'') : Turned F w w'' :=
  ⟨hb.os.trans h.os, hb.tape.trans h.tape, hb.output.trans h.output, Nat.le_trans h.size hb.size, fun i hi hn => (hb.block i (Nat.lt_of_lt_of_le hi h.size)).trans (h.block i hi hn)⟩
theorem Turned.below (h : Turned F w w') {B : Nat} (hF : ∀ k, k ∈ F → B ≤ k) (hB : B ≤ w.heap.size) : Below B w w' :=
  ⟨h.os, h.tape, h.output, h.size, fun k hk => h.block k (by omega) (fun hm => by have := hF k hm; omega)⟩
theorem Turned.of_below (hb : Below w.heap.size w w') (F : List Nat) : Turned F w w' := ⟨hb.os, hb.tape, hb.output, hb.size, fun k hk _ => hb.block k hk⟩
theorem Turned.of_nil (h : Turned [] w w') : Below w.heap.size w w' := h.below (fun k hk => by cases hk) (Nat.le_refl _)
theorem Turned.grownBy (h : Turned F w w') {row : Option Nat} (hF : ∀ k, k ∈ F → some k = row) : w.grownBy w' row := ⟨h.os, h.tape, h.output, h.size, fun k hk hn => h.block k hk (fun hm => hn (hF k hm))⟩

theorem Fresh.refl (w : World) (F : List Nat) : Fresh w F F := fun _ h => .inl h
theorem Fresh.trans (h : Fresh w F F') (ht : w.heap.size ≤ w'.heap.size) (k : Fresh w' F' G) : Fresh w F G := fun i hi => by
  rcases k i hi with h1 | h1
  · exact h i h1
  · exact .inr (by omega)
theorem Fresh.apart (h : Fresh w F F') (ha : Apart F G) (hg : ∀ k, k ∈ G → k < w.heap.size) : Apart F' G := fun k hk hkg => by
  rcases h k hk with h1 | h1
  · exact ha k h1 hkg
  · have := hg k hkg; omega
theorem Apart.symm (h : Apart F G) : Apart G F := fun k hk hf => h k hf hk
theorem Apart.new (hF : ∀ k, k ∈ F → w.heap.size ≤ k) (hG : ∀ k, k ∈ G → k < w.heap.size) : Apart F G := fun k hk hg => by have := hF k hk; have := hG k hg; omega

/-! Blocks known whole. -/
variable {g g' : Nat} {t t' : TypeId} {cs cs' : Array Value}
theorem Blk.lt (h : Blk w g t cs) : g < w.heap.size := (Array.getElem?_eq_some_iff.1 h).1
theorem Blk.cell (h : Blk w g t cs) (i : Nat) : w.cell? ⟨g, i, none⟩ = cs[i]? := cell_of_row w g i cs t (0, 0) h
theorem Blk.free (h : Blk w g t cs) (i : Nat) : w.frozen? ⟨g, i, none⟩ = false := by
  have h' : w.heap[g]? = some (.cells cs t (0, 0)) := h
  simp [World.frozen?, h']
theorem Blk.new (w : World) (t : TypeId) (cs : Array Value) : Blk (w.alloc (.cells cs t)) w.heap.size t cs := heap_alloc_new w _
theorem Blk.drew (h : Blk w g t cs) : Blk w.drew g t cs := h
theorem Blk.drewN (h : Blk w g t cs) (n : Nat) : Blk (w.drewN n) g t cs := h
theorem Blk.alloc (h : Blk w g t cs) (o : Obj) : Blk (w.alloc o) g t cs := (Below.heap_alloc w o g h.lt).trans h
theorem Blk.set_ (h : Blk w g t cs) (i : Nat) (u : Value) : Blk (w.setCell ⟨g, i, none⟩ u) g t (cs.setIfInBounds i u) := by
  have h' : w.heap[g]? = some (.cells cs t (0, 0)) := h
  unfold Blk
  simp [World.setCell, Array.getElem?_modify, h']
theorem Blk.far (h : Blk w g t cs) {p : Addr} (hp : g ≠ p.block) (u : Value) : Blk (w.setCell p u) g t cs := (Below.heap_setCell w p u g hp).trans h
theorem Blk.turned (h : Blk w g t cs) (ht : Turned F w w') (hg : g ∉ F) : Blk w' g t cs := (ht.block g h.lt hg).trans h
theorem Blk.grown {row : Option Nat} (h : Blk w g t cs) (hb : w.grownBy w' row) (hg : some g ≠ row) : Blk w' g t cs := (hb.block g h.lt hg).trans h
theorem Blk.below {B : Nat} (h : Blk w g t cs) (hb : Below B w w') (hg : g < B) : Blk w' g t cs := (hb.block g hg).trans h
theorem Blk.kind (h : Blk w g t cs) (h' : Blk w g' t' cs') (hne : t ≠ t') : g ≠ g' := by
  rintro rfl
  have e : some (Obj.cells cs t (0, 0)) = some (Obj.cells cs' t' (0, 0)) := Eq.trans (Eq.symm h) h'
  injection e with e
  injection e with _ e2
  exact hne e2

/-! Rows of an object's own. -/
variable {base size n : Nat} {e : TypeId} {v : Value} {xs : List Value}
theorem own_turned (h : w.ownsRow base e size v n xs) (ht : Turned F w w') (hn : ∀ k, v.ownBlock = some k → k ∉ F) : w'.ownsRow base e size v n xs := by
  refine ⟨h.1, ?_⟩
  rcases h.2 with h2 | ⟨g, cap, cur, rfl, hb, hg, rest⟩
  · exact .inl h2
  · exact .inr ⟨g, cap, cur, rfl, hb, (ht.block g (Array.getElem?_eq_some_iff.1 hg).1 (hn g rfl)).trans hg, rest⟩
theorem own_setCell (h : w.ownsRow base e size v n xs) {p : Addr} (hp : v.ownBlock ≠ some p.block) (u : Value) : (w.setCell p u).ownsRow base e size v n xs := by
  refine ⟨h.1, ?_⟩
  rcases h.2 with h2 | ⟨g, cap, cur, rfl, hb, hg, rest⟩
  · exact .inl h2
  · exact .inr ⟨g, cap, cur, rfl, hb, (Below.heap_setCell w p u g (fun e => hp (by rw [← e]; rfl))).trans hg, rest⟩
theorem own_kind (h : w.ownsRow base e size v n xs) (hg : Blk w g t cs) (hne : e ≠ t) : v.ownBlock ≠ some g := by
  rcases h.2 with ⟨rfl, _⟩ | ⟨g', cap, cur, rfl, _, hh, _⟩
  · simp [Value.ownBlock]
  · intro he
    have hg' : g' = g := by simpa [Value.ownBlock] using he
    subst hg'
    exact Blk.kind (t := e) hh hg hne rfl
theorem own_lt (h : w.ownsRow base e size v n xs) {k : Nat} (hk : v.ownBlock = some k) : k < w.heap.size := (h.lt k hk).2
theorem own_form' (h : w.ownsRow base e size v n xs) : ∃ A c, v = .slice A n c ∧ n ≤ c ∧ c ≤ maxLen := by
  rcases h.2 with ⟨rfl, rfl⟩ | ⟨g, cap, cur, rfl, _, _, h1, h2, _⟩
  · exact ⟨none, 0, rfl, Nat.le_refl _, by simp [maxLen]⟩
  · exact ⟨_, cap, rfl, h1, h2⟩
theorem own_at_ {A : Option Addr} {m c : Nat} (h : w.ownsRow base e 1 (.slice A m c) n xs) {k : Nat} {u : Value} (hk : xs[k]? = some u) : ∃ b, A = some ⟨b, 0, none⟩ ∧ w.cell? ⟨b, k, none⟩ = some u := by
  rcases h.2 with ⟨hv, rfl⟩ | ⟨g, cap, cur, hv, _, hg, _, _, _, ht⟩
  · have : xs = [] := List.eq_nil_of_length_eq_zero (by have := h.1; omega)
    subst this; simp at hk
  · injection hv with h1 h2 h3
    subst h1
    refine ⟨g, rfl, ?_⟩
    rw [cell_of_row w g k cur e (0, 0) hg]
    rw [← ht, List.getElem?_take] at hk
    split at hk
    · simpa using hk
    · cases hk
theorem own_ats {A : Option Addr} {m c : Nat} (h : w.ownsRow base e size (.slice A m c) n xs) {k : Nat} {u : Value} (hk : xs[k]? = some u) : ∃ b, A = some ⟨b, 0, none⟩ ∧ w.cell? ⟨b, k, none⟩ = some u := by
  rcases h.2 with ⟨hv, rfl⟩ | ⟨g, cap, cur, hv, _, hg, _, _, _, ht⟩
  · have : xs = [] := List.eq_nil_of_length_eq_zero (by have := h.1; simpa using this)
    subst this; simp at hk
  · injection hv with h1 h2 h3
    subst h1
    refine ⟨g, rfl, ?_⟩
    rw [cell_of_row w g k cur e (0, 0) hg]
    rw [← ht, List.getElem?_take] at hk
    split at hk
    · simpa using hk
    · cases hk

/-! Maps of an object's own: block and reading. -/
section
variable {P : Program} {k : TypeId} {R : Value → Option (DataW Unit × List MemPlace)} {b m : Nat} {D : DataW Unit}
end
end

/-! An entry of a map that is written out. -/
/-! A map from keys of a kind to integers, as a function. -/
section
variable {α : Type}
def Agrees (kd : α → Lit) (ok : α → Prop) (D : DataW Unit) (f : α → Option Int) : Prop :=
  Maps.IsMap D ∧ ∀ a, ok a → Maps.has D (kd a) = (f a).isSome ∧ D.atKey (kd a) (.lit (.int .i64 0)) = .lit (.int .i64 ((f a).getD 0))
theorem Agrees.none_ (kd : α → Lit) (ok : α → Prop) : Agrees kd ok (.map []) (fun _ => none) := ⟨Maps.isMap_empty, fun _ _ => ⟨rfl, rfl⟩⟩
theorem Agrees.put [DecidableEq α] {kd : α → Lit} {ok : α → Prop} (inj : ∀ a b, ok a → ok b → kd a = kd b → a = b) {D : DataW Unit} {f : α → Option Int} (h : Agrees kd ok D f) (a : α) (ha : ok a) (hk : WideAt.IsKeyLit (kd a)) (c : Int) :
    Agrees kd ok (D.put (kd a) (.lit (.int .i64 c))) (fun b => if b = a then some c else f b) := by
  refine ⟨h.1.put _ _, fun b hbo => ?_⟩
  by_cases hb : b = a
  · subst hb
    simp only [if_pos rfl]
    exact ⟨Maps.has_put_same h.1 hk _, Maps.atKey_put_same h.1 hk _ _⟩
  · simp only [if_neg hb]
    have hne : kd b ≠ kd a := fun e => hb (inj _ _ hbo ha e)
    exact ⟨(Maps.has_put_other hne _).trans (h.2 b hbo).1, (Maps.atKey_put_other hne _ _).trans (h.2 b hbo).2⟩
theorem Agrees.congr {kd : α → Lit} {ok : α → Prop} {D : DataW Unit} {f g : α → Option Int} (h : Agrees kd ok D f) (e : ∀ a, f a = g a) : Agrees kd ok D g := ⟨h.1, fun a ha => by rw [← e a]; exact h.2 a ha⟩
theorem Agrees.has {kd : α → Lit} {ok : α → Prop} {D : DataW Unit} {f : α → Option Int} (h : Agrees kd ok D f) (a : α) (ha : ok a) : Maps.has D (kd a) = (f a).isSome := (h.2 a ha).1
theorem Agrees.at_ {kd : α → Lit} {ok : α → Prop} {D : DataW Unit} {f : α → Option Int} (h : Agrees kd ok D f) (a : α) (ha : ok a) {c : Int} (hc : D.atKey (kd a) (.lit (.int .i64 0)) = .lit (.int .i64 c)) : c = (f a).getD 0 := by
  have := (h.2 a ha).2
  rw [hc] at this
  injection this with this
  injection this with _ this

variable [DecidableEq α]
end

/-! Texts as keys. -/
def kdS (s : ByteArray) : Lit := .string s.data.toList
theorem kdS_inj (a b : ByteArray) (h : kdS a = kdS b) : a = b := by
  unfold kdS at h
  injection h with h
  obtain ⟨⟨l⟩⟩ := a
  obtain ⟨⟨m⟩⟩ := b
  simp at h
  subst h
  rfl
theorem below_drewN' {B : Nat} {a w : World} (h : Below B a w) (n : Nat) : Below B a (w.drewN n) := ⟨h.os, h.tape, h.output, h.size, h.block⟩

theorem cells_new (w : World) (us : Array Value) (t : TypeId) : ∀ j u, us.toList[j]? = some u → (w.alloc (.cells us t)).cell? ((⟨w.heap.size, 0, none⟩ : Addr).add j) = some u := fun j u hu => by
  have e : (⟨w.heap.size, 0, none⟩ : Addr).add j = ⟨w.heap.size, j, none⟩ := by unfold Addr.add; split <;> simp_all
  rw [e, (Blk.new w t us).cell j]
  rwa [Array.getElem?_toList] at hu
theorem Blk.new' {w : World} {g : Nat} {t : TypeId} {cs : Array Value} (h : w.heap.size = g) : Blk (w.alloc (.cells cs t)) g t cs := h ▸ heap_alloc_new w _
theorem cells_at {w : World} {g : Nat} {t : TypeId} {us : Array Value} (h : Blk w g t us) {xs : List Value} (hx : us.toList = xs) : ∀ j u, xs[j]? = some u → w.cell? ((⟨g, 0, none⟩ : Addr).add j) = some u := fun j u hu => by
  have e : (⟨g, 0, none⟩ : Addr).add j = ⟨g, j, none⟩ := by unfold Addr.add; split <;> simp_all
  rw [e, h.cell j]
  rwa [← hx, Array.getElem?_toList] at hu

/-- An append in a region that draws its order. -/
theorem step_append_at {P : Program} {w : World} {ops : Array Oper} {o : Oper} {a : Act} {K : Act → World → Prop} {Q : Exit → Act → World → Prop} {E : Prop} (hgd : o.guard = none) (s x : Operand) (t : TypeId)
    (ho : o.op = .call { callee := .builtin .append, args := #[s, x], argTypes := #[t, t] })
    (base : Nat) (e : TypeId) (i : TypeInfo) (z : Value) (size bytes : Nat) (ht : P.underlying t = some (.slice e)) (hi : P.info? e = some i) (hz : i.zero = some z)
    (hsize : i.size = size) (hby : i.bytes = bytes) (hzs : z.cells.size = size) (hsz : 0 < size)
    (v : Value) (n : Nat) (xs : List Value) (hs : a.eval s = v) (hown : w.ownsRow base e size v n xs)
    (ad : Addr) (m c : Nat) (news : List Value) (hx : a.eval x = .slice (some ad) m c) (hl : news.length = m * size) (hnews : ∀ j u, news[j]? = some u → w.cell? (ad.add j) = some u) (h1 : ∀ u ∈ news, u.oneCell' = true)
    (h63 : n + m ≤ maxLen) (hbytes : (n + m) * bytes ≤ 140737488355328) (hbase : base ≤ w.heap.size)
    (h : ∀ v' w', w'.ownsRow base e size v' (n + m) (xs ++ news) → w.grownBy w' v.ownBlock → (v'.ownBlock = v.ownBlock ∨ v'.ownBlock = some w.heap.size) → K (a.put o.dst v') w') :
    if Region.wanted o (yielded ops a.tmps) = true then Oper.wp P o a w K Q else E := by
  have hw : Region.wanted o (yielded ops a.tmps) = true := by simp [Region.wanted, hgd]
  rw [if_pos hw]
  obtain ⟨v', w', hr, h2, h3, _, h5⟩ := run_append_own_at (P := P) w base t o.type e i z size bytes ht hi hz hsize hby hzs hsz v n xs hown ad m c news hl hnews h1 h63 hbytes hbase
  unfold Oper.wp execOp
  simp only [ho, resolve, invoke, builtin, Sem.run_bind, Sem.run_pure, Result.andThen_ok, List.map_toArray, List.map_cons, List.map_nil, hs, hx, hr]
  exact h v' w' h2 h3 h5
/-! Four results. -/
theorem str_ne {a b : ByteArray} (h : a ≠ b) : (a.toList == b.toList) = false := beq_eq_false_iff_ne.2 fun e => h (kdS_inj a b (by rw [kdS, kdS, ← ByteArray.toList_eq, ← ByteArray.toList_eq, e]))
end Go.Proofs.YtdhgiammfpjniaaGreatDoor

/- What a law's arguments are, and how a walk that turns nothing of what was there proves the law. -/
namespace Go.Proofs.YtdhgiammfpjniaaGreatDoor
set_option linter.unusedSimpArgs false
set_option linter.unusedVariables false
open Go.RowKit Go.ChangeShapes Go.WideShapes
open Go.ChangeMaps (open_string shut_string)

/-- A slice's head A leads, below block B, to cells that hold xs. -/
def Rd (w : World) (B : Nat) (A : Option Addr) (xs : List Value) : Prop :=
  ∀ k v, xs[k]? = some v → ∃ b o, A = some ⟨b, o, none⟩ ∧ b < B ∧ w.cell? ⟨b, o + k, none⟩ = some v
theorem Rd.nil {w : World} {B : Nat} {A : Option Addr} : Rd w B A [] := fun k v h => by simp at h
theorem Rd.below {w w' : World} {B B' : Nat} {A : Option Addr} {xs : List Value} (h : Rd w B A xs) (hb : Below B' w w') (hB : B ≤ B') : Rd w' B A xs := fun k v hk => by
  obtain ⟨b, o, rfl, hlt, hc⟩ := h k v hk
  exact ⟨b, o, rfl, hlt, (World.cell?_of_block (hb.block b (Nat.lt_of_lt_of_le hlt hB))).trans hc⟩
theorem Rd.at_ {w : World} {B : Nat} {A : Option Addr} {xs : List Value} (h : Rd w B A xs) {k : Nat} {v : Value} (hk : xs[k]? = some v) : ∃ b o, A = some ⟨b, o, none⟩ ∧ b < B ∧ w.cell? ⟨b, o + k, none⟩ = some v := h k v hk
theorem cell_lt {w : World} {a : Addr} {v : Value} (h : w.cell? a = some v) : a.block < w.heap.size := by
  rcases Nat.lt_or_ge a.block w.heap.size with hl | hl
  · exact hl
  · simp [World.cell?, Array.getElem?_eq_none hl] at h
/-- Cells that stand one behind the other. -/
theorem rd_of {w : World} {a : Addr} {xs : List Value} (h : ∀ i v, xs[i]? = some v → w.cell? (a.add i) = some v) : Rd w w.heap.size (some a) xs := fun k v hk => by
  have h0 : ∃ u, xs[0]? = some u := by
    rcases xs with _ | ⟨u, r⟩
    · simp at hk
    · exact ⟨u, rfl⟩
  obtain ⟨u, hu⟩ := h0
  have hc := h k v hk
  have hs : a.spot = none := by simpa [Addr.add] using World.cell?_spot (h 0 u hu)
  obtain ⟨b, o, sp⟩ := a
  simp only at hs
  subst hs
  have e : (Addr.add ⟨b, o, none⟩ k) = ⟨b, o + k, none⟩ := by
    unfold Addr.add
    split
    · rename_i h0; subst h0; rfl
    · rfl
  rw [e] at hc
  exact ⟨b, o, rfl, cell_lt hc, hc⟩

/-! What an argument is: its value, how it reads. -/
section
variable {H : Type} {enc : TypeId × Value → H} {P : Program} {W : World}
def In (enc : TypeId × Value → H) (P : Program) (W : World) (t : TypeId) (v : Value) (d : DataW H) : Prop :=
  (∃ base, Value.okWide P W .any base t v) ∧ ∃ ps, DataW.Trod enc P W 0 (fun _ => true) true t v d ps
variable {t e : TypeId} {v : Value} {d : DataW H}
theorem In.string (h : In enc P W t v d) (ht : P.underlying t = some .string) : ∃ s : ByteArray, v = .string s ∧ d = .lit (.string s.data.toList) ∧ s.size ≤ maxLen := by
  obtain ⟨⟨b, hv⟩, ps, hd⟩ := h
  obtain ⟨s, h1, h2, _, h3⟩ := open_string ht hv hd
  exact ⟨s, h1, h2, h3⟩
theorem In.int {k : IntKind} (h : In enc P W t v d) (ht : P.underlying t = some (.int k)) : ∃ n, v = .int k n ∧ d = .lit (.int k n) ∧ (Lit.int k n).wf = true := by
  obtain ⟨⟨b, hv⟩, ps, hd⟩ := h
  obtain ⟨s, h1, h2, _, h3⟩ := open_int ht hv hd
  exact ⟨s, h1, h2, h3⟩
theorem In.bool (h : In enc P W t v d) (ht : P.underlying t = some .bool) : ∃ x, v = .bool x ∧ d = .lit (.bool x) := by
  obtain ⟨⟨b, hv⟩, ps, hd⟩ := h
  obtain ⟨s, h1, h2, _⟩ := open_bool ht hv hd
  exact ⟨s, h1, h2⟩
/-- How a slice's datum looks: its elements, its spare ones. -/
def Long (d : DataW H) (n c : Nat) : Prop := (d = .nil ∧ n = 0 ∧ c = 0) ∨ ∃ a b, d = .slice a b ∧ a.length = n ∧ n + b.length = c
theorem In.strings (h : In enc P W t v d) (ht : P.underlying t = some (.slice e)) (he : P.underlying e = some .string) (hc : P.cellsOf e = 1) :
    ∃ (A : Option Addr) (n c : Nat) (ss : List ByteArray), v = .slice A n c ∧ ss.length = n ∧ n ≤ c ∧ c ≤ maxLen ∧ Rd W W.heap.size A (ss.map Value.string) ∧ (∀ s ∈ ss, s.size ≤ maxLen) ∧ Long d n c ∧ (d = .nil ∧ ss = [] ∨ ∃ b, d = .slice (strs ss) b) := by
  obtain ⟨⟨b, hv⟩, ps, fuel, hf⟩ := h
  obtain ⟨A, n, c, rfl⟩ := okWide_slice ht hv
  rcases open_strings ht he hc hf with ⟨hcs, hx⟩ | ⟨a, len, cap, ss, hcs, _, hl, hm, hss, hx, hcell, hw⟩
  · simp [Value.cells] at hcs
    obtain ⟨rfl, rfl, rfl⟩ := hcs
    simp only [Prod.mk.injEq] at hx
    exact ⟨none, 0, 0, [], rfl, rfl, Nat.le_refl _, by simp [maxLen], Rd.nil, by simp, .inl ⟨hx.1, rfl, rfl⟩, .inl ⟨hx.1, rfl⟩⟩
  · simp [Value.cells] at hcs
    obtain ⟨rfl, rfl, rfl⟩ := hcs
    simp only [Prod.mk.injEq] at hx
    obtain ⟨rfl, _⟩ := hx
    have hs' : ss.length = c := by simpa using hss
    refine ⟨some a, n, c, ss.take n, rfl, by rw [List.length_take]; omega, hl, hm, rd_of fun i v hi => ?_, fun s hs => hw s (List.mem_of_mem_take hs), .inr ⟨_, _, rfl, by simp [strs]; omega, by simp [strs]; omega⟩, .inr ⟨_, rfl⟩⟩
    rw [List.getElem?_map, List.getElem?_take] at hi
    split at hi
    · rename_i hin
      have hlt : i < ss.length := by omega
      have := hcell i hlt
      rw [List.getD_eq_getElem?_getD, List.getElem?_eq_getElem hlt] at this
      rw [List.getElem?_eq_getElem hlt] at hi
      simp at hi
      subst hi
      exact this
    · simp at hi
theorem In.ints {k : IntKind} (h : In enc P W t v d) (ht : P.underlying t = some (.slice e)) (he : P.underlying e = some (.int k)) (hc : P.cellsOf e = 1) :
    ∃ (A : Option Addr) (n c : Nat) (zs : List Int), v = .slice A n c ∧ zs.length = n ∧ n ≤ c ∧ c ≤ maxLen ∧ Rd W W.heap.size A (zs.map (Value.int k)) ∧ (∀ z ∈ zs, (Lit.int k z).wf = true) ∧ Long d n c := by
  obtain ⟨⟨b, hv⟩, ps, fuel, hf⟩ := h
  obtain ⟨A, n, c, rfl⟩ := okWide_slice ht hv
  rcases open_ints ht he hc hf with ⟨hcs, hx⟩ | ⟨a, len, cap, ss, hcs, _, hl, hm, hss, hx, hcell, hw⟩
  · simp [Value.cells] at hcs
    obtain ⟨rfl, rfl, rfl⟩ := hcs
    simp only [Prod.mk.injEq] at hx
    exact ⟨none, 0, 0, [], rfl, rfl, Nat.le_refl _, by simp [maxLen], Rd.nil, by simp, .inl ⟨hx.1, rfl, rfl⟩⟩
  · simp [Value.cells] at hcs
    obtain ⟨rfl, rfl, rfl⟩ := hcs
    simp only [Prod.mk.injEq] at hx
    obtain ⟨rfl, _⟩ := hx
    have hs' : ss.length = c := by simpa using hss
    refine ⟨some a, n, c, ss.take n, rfl, by rw [List.length_take]; omega, hl, hm, rd_of fun i v hi => ?_, fun s hs => hw s (List.mem_of_mem_take hs), .inr ⟨_, _, rfl, by simp [lits]; omega, by simp [lits]; omega⟩⟩
    rw [List.getElem?_map, List.getElem?_take] at hi
    split at hi
    · rename_i hin
      have hlt : i < ss.length := by omega
      have := hcell i hlt
      rw [List.getD_eq_getElem?_getD, List.getElem?_eq_getElem hlt] at this
      rw [List.getElem?_eq_getElem hlt] at hi
      simp at hi
      subst hi
      exact this
    · simp at hi
/-- A slice of whatever: each element's cells, and how it reads. -/
theorem In.slice (h : In enc P W t v d) (ht : P.underlying t = some (.slice e)) (hpos : 0 < P.cellsOf e) :
    ∃ (A : Option Addr) (n c : Nat), v = .slice A n c ∧ n ≤ c ∧ c ≤ maxLen ∧ Long d n c ∧ ∀ i, i < n → ∃ (b o : Nat) (cs : List Value) (di : DataW H) (fuel : Nat) (ps : List MemPlace), A = some ⟨b, o, none⟩ ∧ b < W.heap.size ∧ cs.length = P.cellsOf e ∧
      (∀ j u, cs[j]? = some u → W.cell? ⟨b, o + (i * P.cellsOf e + j), none⟩ = some u) ∧ DataW.trod enc P W 0 (fun _ => true) true fuel e cs = some (di, ps) ∧ (∃ xs ys, d = .slice xs ys ∧ xs[i]? = some di) := by
  obtain ⟨⟨b, hv⟩, ps, fuel, hf⟩ := h
  obtain ⟨A, n, c, rfl⟩ := okWide_slice ht hv
  rcases Go.Deep.open_slice ht hf with ⟨hcs, hx⟩ | ⟨a, len, cap, m, k, D, Pl, hcs, _, hl, hm, hmm, hx, hi⟩
  · simp [Value.cells] at hcs
    obtain ⟨rfl, rfl, rfl⟩ := hcs
    simp only [Prod.mk.injEq] at hx
    exact ⟨none, 0, 0, rfl, Nat.le_refl _, by simp [maxLen], .inl ⟨hx.1, rfl, rfl⟩, fun i hi => by omega⟩
  · simp [Value.cells] at hcs
    obtain ⟨rfl, rfl, rfl⟩ := hcs
    simp only [Prod.mk.injEq] at hx
    obtain ⟨rfl, _⟩ := hx
    have hm' : m = c := by simpa using hmm
    subst hm'
    refine ⟨some a, n, m, rfl, hl, hm, .inr ⟨_, _, rfl, by simp, by simp; omega⟩, fun i hin => ?_⟩
    obtain ⟨cs, hc, ht'⟩ := hi i (by omega)
    obtain ⟨_, hlen, hat⟩ := World.cells?_some hc
    obtain ⟨u0, hu0⟩ : ∃ u, cs[0]? = some u := ⟨_, List.getElem?_eq_getElem (by omega)⟩
    have hs' : a.spot = none := by
      obtain ⟨cs1, hc1, _⟩ := hi 0 (by omega)
      obtain ⟨_, hlen1, hat1⟩ := World.cells?_some hc1
      have := hat1 0 hpos
      rw [List.getElem?_eq_getElem (by omega)] at this
      have hh : W.cell? a = some (cs1[0]'(by omega)) := by simpa [Addr.add] using this
      exact World.cell?_spot hh
    obtain ⟨ab, ao, asp⟩ := a
    simp only at hs'
    subst hs'
    have e1 : ∀ x y, ((Addr.add ⟨ab, ao, none⟩ x).add y) = ⟨ab, ao + (x + y), none⟩ := fun x y => by
      unfold Addr.add
      by_cases hx : x = 0 <;> by_cases hy : y = 0 <;> simp [hx, hy, Nat.add_assoc]
    have hcell : ∀ j u, cs[j]? = some u → W.cell? ⟨ab, ao + (i * P.cellsOf e + j), none⟩ = some u := fun j u hj => by
      have hjl := (List.getElem?_eq_some_iff.1 hj).1
      have := hat j (by omega)
      rw [e1, hj] at this
      exact this
    exact ⟨ab, ao, cs, D i, k, Pl i, rfl, cell_lt (hcell 0 u0 hu0), hlen, hcell, ht', _, _, rfl, by rw [List.getElem?_map, List.getElem?_range hin]; rfl⟩
/-- A struct's cells, where each field is one. -/
theorem fields_of {fs : Array Field} {cs : List Value} {di : DataW H} {fuel : Nat} {ps : List MemPlace} (he : P.underlying e = some (.struct fs)) (hone : Go.Deep.oneCellFields P fs = true) (hl : cs.length = fs.size)
    (h : DataW.trod enc P W 0 (fun _ => true) true fuel e cs = some (di, ps)) : ∀ (j : Nat) (f : Field), fs[j]? = some f → ∃ (u : Value) (n : Nat) (y : DataW H × List MemPlace), cs[j]? = some u ∧ DataW.trod enc P W 0 (fun _ => true) true n f.type [u] = some y := by
  intro j f hj
  obtain ⟨xs, n, _, _, _, hxl, hf⟩ := DataW.trod_struct he h
  obtain ⟨ho, hk⟩ := Go.Deep.hone_of hone j f hj
  have hjl : j < fs.size := (Array.getElem?_eq_some_iff.1 hj).1
  have hu : cs[j]? = some (cs[j]'(by omega)) := List.getElem?_eq_getElem (by omega)
  refine ⟨_, n, xs[j]'(by omega), hu, ?_⟩
  have h1 := hf j f hj
  rw [ho, hk, List.drop_eq_getElem_cons (by omega)] at h1
  rw [List.getElem?_eq_getElem (by omega)] at h1
  have h2 : (cs[j]'(by omega) :: cs.drop (j + 1)).take 1 = [cs[j]'(by omega)] := rfl
  rw [h2] at h1
  exact h1
theorem okWide_array {n : Nat} {r : Reach} {base : Nat} (ht : P.underlying t = some (.array n e)) (h : Value.okWide P W r base t v) : ∃ cs, v = .agg cs ∧ cs.size = P.cellsOf t := by
  simp only [Value.okWide, ht] at h
  obtain ⟨cs, h1, h2, _⟩ := h
  exact ⟨cs, h1, h2⟩
theorem In.ints3 {k : IntKind} (h : In enc P W t v d) (ht : P.underlying t = some (.array 3 e)) (hct : P.cellsOf t = 3) (he : P.underlying e = some (.int k)) (hc : P.cellsOf e = 1) :
    ∃ a b c, v = .agg #[.int k a, .int k b, .int k c] ∧ (Lit.int k a).wf = true ∧ (Lit.int k b).wf = true ∧ (Lit.int k c).wf = true := by
  obtain ⟨⟨b, hv⟩, ps, fuel, hf⟩ := h
  obtain ⟨cs, rfl, hs⟩ := okWide_array ht hv
  rw [hct] at hs
  obtain ⟨l⟩ := cs
  match l, hs with
  | [c0, c1, c2], _ =>
    obtain ⟨y0, y1, y2, n, _, h0, h1, h2⟩ := trod_array3 ht hc (by simpa [Value.cells] using hf)
    obtain ⟨z0, e0, _, w0⟩ := DataW.trod_int he h0
    obtain ⟨z1, e1, _, w1⟩ := DataW.trod_int he h1
    obtain ⟨z2, e2, _, w2⟩ := DataW.trod_int he h2
    simp at e0 e1 e2
    subst e0 e1 e2
    exact ⟨z0, z1, z2, rfl, w0, w1, w2⟩
end

/-- A law's way to true, nothing of what was there turned. -/
def TrueBelow (w : World) (e : Ending) (w' : World) : Prop := e = .returned (.bool true) ∧ Below w.heap.size w w'

theorem ret_bool {a b : Bool} (h : a = b) : Ending.returned (.bool a) = .returned (.bool b) := by rw [h]

/-! How a law is proved whose walk turns nothing of what was there. -/
section
variable {H : Type} {enc : TypeId × Value → H} {P : Program}
theorem trodAll_below (hl : laidOutB P = true) {W W' : World} (hb : Below W.heap.size W W') : ∀ (ts : List TypeId) (vs : List Value) (ds : List (DataW H)) (ps : List MemPlace), (∀ t ∈ ts, P.readableRec t = true ∧ t < P.types.size) →
    DataW.TrodAll enc P W 0 (fun _ => true) true ts vs ds ps → DataW.TrodAll enc P W' 0 (fun b => decide (b < W.heap.size)) true ts vs ds ps
  | [], vs, ds, ps, _, h => by
    obtain ⟨rfl, rfl, rfl⟩ := trodAll_nil h
    exact trodAll_mk0
  | t :: ts, vs, ds, ps, hr, h => by
    obtain ⟨v, vs', d, ds', p, q, rfl, rfl, rfl, h0, r0⟩ := trodAll_cons h
    have lt0 : ∀ x ∈ p, x.block < W.heap.size := by obtain ⟨m, hm⟩ := h0; exact DataW.trod_lt m _ _ _ hm
    exact trodAll_cons_mk (Below.trod hl (hr t (by simp)).1 (hr t (by simp)).2 h0 hb lt0) (trodAll_below hl hb ts vs' ds' q (fun u hu => hr u (by simp [hu])) r0)

theorem post_law {f : Func} {s : ChangeSpec} {W W' : World} {args : Array Value} {ds : List (DataW H)} {before : List MemPlace} {tb : TypeId}
    (hl : laidOutB P = true) (hr : ∀ t ∈ f.params.toList, P.readableRec t = true ∧ t < P.types.size) (hs : s.vars = []) (hres : f.resultTypes = #[tb]) (htb : P.underlying tb = some .bool)
    (hW : DataW.Whole enc P f.params.toList s.vars false W args.toList ds [] before) (hfn : s.fn H (ds ++ []) = { results := [.lit (.bool true)], args := ds })
    (hb : Below W.heap.size W W') : s.post enc P f false true false false W args (.bool true) W' := by
  have hW' := hW
  obtain ⟨p, q, hA, hV, hp, _, _⟩ := hW
  refine ⟨ds, [], before, [], p, [], hW', ?_, ?_, ?_, hb.frame _, fun h => by cases h⟩
  · rw [hres, hfn]
    exact trodAll_mk1 (shut_bool htb _)
  · rw [hfn]
    exact trodAll_below hl hb _ _ _ _ hr hA
  · rw [hfn, hs]
    exact rfl
end
end Go.Proofs.YtdhgiammfpjniaaGreatDoor
