/- A map from texts to slices that all are an object's own: what it holds as a function; which blocks may turn, as a predicate. -/
import Derived.Test.YtinldjjbfhpnkaaDoorUp
import Derived.DeepKeys4
import Derived.WideKeyArgs2
namespace Go.Proofs.YtinldjjbfhpnkaaDoor
set_option linter.unusedSimpArgs false
set_option linter.unusedVariables false
open Go.RowKit
open Go.Maps (Keyed string_keyed)

/-- Of what was there, nothing has turned but the blocks of O. -/
structure TurnedP (O : Nat → Prop) (w w' : World) : Prop where
  os : w'.os = w.os
  tape : w'.tape = w.tape
  output : w'.output = w.output
  size : w.heap.size ≤ w'.heap.size
  block : ∀ k, k < w.heap.size → ¬ O k → w'.heap[k]? = w.heap[k]?
section
variable {w w' w'' : World} {O O' : Nat → Prop} {F : List Nat}
theorem TurnedP.refl (O : Nat → Prop) (w : World) : TurnedP O w w := ⟨rfl, rfl, rfl, Nat.le_refl _, fun _ _ _ => rfl⟩
theorem TurnedP.trans (h : TurnedP O w w') (k : TurnedP O' w' w'') (hf : ∀ i, i < w.heap.size → O' i → O i) : TurnedP O w w'' :=
  ⟨k.os.trans h.os, k.tape.trans h.tape, k.output.trans h.output, Nat.le_trans h.size k.size, fun i hi hn =>
    (k.block i (Nat.lt_of_lt_of_le hi h.size) (fun hm => hn (hf i hi hm))).trans (h.block i hi hn)⟩
theorem TurnedP.more (h : TurnedP O w w') (hf : ∀ k, k < w.heap.size → O k → O' k) : TurnedP O' w w' := ⟨h.os, h.tape, h.output, h.size, fun k hk hn => h.block k hk (fun hm => hn (hf k hk hm))⟩
theorem TurnedP.of (h : Turned F w w') (hf : ∀ k, k < w.heap.size → k ∈ F → O k) : TurnedP O w w' := ⟨h.os, h.tape, h.output, h.size, fun k hk hn => h.block k hk (fun hm => hn (hf k hk hm))⟩
theorem TurnedP.of_below (hb : Below w.heap.size w w') (O : Nat → Prop) : TurnedP O w w' := ⟨hb.os, hb.tape, hb.output, hb.size, fun k hk _ => hb.block k hk⟩
theorem TurnedP.below (h : TurnedP O w w') {B : Nat} (hO : ∀ k, k < w.heap.size → O k → B ≤ k) (hB : B ≤ w.heap.size) : Below B w w' :=
  ⟨h.os, h.tape, h.output, h.size, fun k hk => h.block k (by omega) (fun hm => by have := hO k (by omega) hm; omega)⟩
theorem TurnedP.drewN (h : TurnedP O w w') (n : Nat) : TurnedP O w (w'.drewN n) := ⟨h.os, h.tape, h.output, h.size, h.block⟩
theorem TurnedP.from_drew (h : TurnedP O w.drew w') : TurnedP O w w' := ⟨h.os, h.tape, h.output, h.size, h.block⟩
theorem TurnedP.alloc (h : TurnedP O w w') (o : Obj) : TurnedP O w (w'.alloc o) :=
  ⟨h.os, h.tape, h.output, Nat.le_trans h.size (by simp), fun i hi hn => (Below.heap_alloc w' o i (Nat.lt_of_lt_of_le hi h.size)).trans (h.block i hi hn)⟩
theorem TurnedP.setCell (h : TurnedP O w w') {p : Addr} (hp : p.block < w.heap.size → O p.block) (u : Value) : TurnedP O w (w'.setCell p u) :=
  ⟨h.os, h.tape, h.output, by simpa [World.setCell] using h.size, fun i hi hn => (Below.heap_setCell w' p u i (by
    rintro rfl
    exact hn (hp hi))).trans (h.block i hi hn)⟩
theorem TurnedP.grown {row : Option Nat} (h : TurnedP O w w') (hg : w'.grownBy w'' row) (hr : ∀ k, k < w.heap.size → row = some k → O k) : TurnedP O w w'' :=
  ⟨hg.os.trans h.os, hg.tape.trans h.tape, hg.output.trans h.output, Nat.le_trans h.size hg.size, fun i hi hn =>
    (hg.block i (Nat.lt_of_lt_of_le hi h.size) (fun e => hn (hr i hi e.symm))).trans (h.block i hi hn)⟩
theorem TurnedP.below_ (h : TurnedP O w w') (hb : Below w'.heap.size w' w'') : TurnedP O w w'' :=
  ⟨hb.os.trans h.os, hb.tape.trans h.tape, hb.output.trans h.output, Nat.le_trans h.size hb.size, fun i hi hn => (hb.block i (Nat.lt_of_lt_of_le hi h.size)).trans (h.block i hi hn)⟩
variable {g : Nat} {t : TypeId} {cs : Array Value}
theorem Blk.turnedP (h : Blk w g t cs) (ht : TurnedP O w w') (hg : ¬ O g) : Blk w' g t cs := (ht.block g h.lt hg).trans h
variable {base size n : Nat} {e : TypeId} {v : Value} {xs : List Value}
theorem own_turnedP (h : w.ownsRow base e size v n xs) (ht : TurnedP O w w') (hn : ∀ k, v.ownBlock = some k → ¬ O k) : w'.ownsRow base e size v n xs := by
  refine ⟨h.1, ?_⟩
  rcases h.2 with h2 | ⟨g, cap, cur, rfl, hb, hg, rest⟩
  · exact .inl h2
  · exact .inr ⟨g, cap, cur, rfl, hb, (ht.block g (Array.getElem?_eq_some_iff.1 hg).1 (hn g rfl)).trans hg, rest⟩
theorem own_handle (h : w.ownsRow base e size v n xs) : (v = .slice none 0 0 ∧ n = 0) ∨ ∃ b c, v = .slice (some ⟨b, 0, none⟩) n c := by
  rcases h.2 with ⟨rfl, h1⟩ | ⟨g, cap, cur, rfl, _⟩
  · exact .inl ⟨rfl, h1⟩
  · exact .inr ⟨g, cap, rfl⟩
end

/-! Slices as what a map holds. -/
def hElem (v : Value) : Option (DataW Unit × List MemPlace) :=
  match v with
  | .slice none n c => some (.agg [.lit (.int .i64 0), .lit (.int .i64 n), .lit (.int .i64 c)], [])
  | .slice (some ⟨b, 0, none⟩) n c => some (.agg [.lit (.int .i64 ((b : Int) + 1)), .lit (.int .i64 n), .lit (.int .i64 c)], [])
  | _ => none
def dH (v : Value) : DataW Unit := ((hElem v).getD (.nil, [])).1
/-- A slice that begins where its block does, or none. -/
def IsH (v : Value) : Prop := ∃ n c, v = .slice none n c ∨ ∃ b, v = .slice (some ⟨b, 0, none⟩) n c
theorem hElem_mk {v : Value} (h : IsH v) : hElem v = some (dH v, []) := by
  obtain ⟨n, c, rfl | ⟨b, rfl⟩⟩ := h <;> rfl
theorem hElem_inv {v u : Value} {ps : List MemPlace} (hu : IsH u) (h : hElem v = some (dH u, ps)) : v = u := by
  unfold hElem at h
  split at h
  · obtain ⟨m, d, rfl | ⟨b, rfl⟩⟩ := hu
    · simp [dH, hElem] at h
      obtain ⟨⟨h1, h2⟩, _⟩ := h
      simp only [Value.slice.injEq, true_and]
      omega
    · simp [dH, hElem] at h
      omega
  · obtain ⟨m, d, rfl | ⟨b', rfl⟩⟩ := hu
    · simp [dH, hElem] at h
      omega
    · simp [dH, hElem] at h
      obtain ⟨⟨h0, h1, h2⟩, _⟩ := h
      simp only [Value.slice.injEq, Option.some.injEq, Addr.mk.injEq, and_true]
      omega
  · cases h
theorem IsH.nil : IsH (.slice none 0 0) := ⟨0, 0, .inl rfl⟩
theorem IsH.own {w : World} {base size n : Nat} {e : TypeId} {v : Value} {xs : List Value} (h : w.ownsRow base e size v n xs) : IsH v := by
  rcases own_handle h with ⟨rfl, _⟩ | ⟨b, c, rfl⟩
  · exact .nil
  · exact ⟨n, c, .inr ⟨b, rfl⟩⟩
theorem keyS : Keyed Tryd.prog 9 := string_keyed Tryd.underlying9

/-- Block bm is a map whose slice at s is f s, which holds xs s: rows that are the map's own, each apart from the others. -/
structure MapR (w : World) (base : Nat) (e : TypeId) (size : Nat) (bm n : Nat) (f : ByteArray → Value) (cnt : ByteArray → Nat) (xs : ByteArray → List Value) : Prop where
  map : ∃ D, w.ownsMap Tryd.prog 9 hElem bm n D ∧ Maps.IsMap D ∧ ∀ s, D.atKey (kdS s) (dH (.slice none 0 0)) = dH (f s)
  rows : ∀ s, w.ownsRow base e size (f s) (cnt s) (xs s)
  apart : ∀ s t k, s ≠ t → (f s).ownBlock = some k → (f t).ownBlock ≠ some k
  far : base ≤ bm
/-- The blocks of such a map. -/
def MapO (bm : Nat) (f : ByteArray → Value) (k : Nat) : Prop := k = bm ∨ ∃ s, (f s).ownBlock = some k
section
variable {w w' : World} {base size bm n : Nat} {e : TypeId} {f : ByteArray → Value} {cnt : ByteArray → Nat} {xs : ByteArray → List Value} {O : Nat → Prop}
theorem MapR.lt (h : MapR w base e size bm n f cnt xs) : bm < w.heap.size := by obtain ⟨D, hD, _⟩ := h.map; exact hD.lt
theorem MapR.O_lt (h : MapR w base e size bm n f cnt xs) {k : Nat} (hk : MapO bm f k) : base ≤ k ∧ k < w.heap.size := by
  rcases hk with rfl | ⟨s, hs⟩
  · exact ⟨h.far, h.lt⟩
  · exact (h.rows s).lt k hs
theorem MapR.turned (h : MapR w base e size bm n f cnt xs) (ht : TurnedP O w w') (hO : ∀ k, MapO bm f k → ¬ O k) : MapR w' base e size bm n f cnt xs := by
  obtain ⟨D, hD, hM, hA⟩ := h.map
  refine ⟨⟨D, ?_, hM, hA⟩, fun s => own_turnedP (h.rows s) ht fun k hk => hO k (.inr ⟨s, hk⟩), h.apart, h.far⟩
  have hlt := hD.lt
  obtain ⟨es, clock, hh, r⟩ := hD
  exact ⟨es, clock, (ht.block bm hlt (hO bm (.inl rfl))).trans hh, r⟩
theorem MapR.bm_row (h : MapR w base e size bm n f cnt xs) (s : ByteArray) : (f s).ownBlock ≠ some bm := by
  obtain ⟨D, hD, _⟩ := h.map
  exact map_own hD (h.rows s)
/-- No block of it is a row of another kind. -/
theorem MapR.kind (h : MapR w base e size bm n f cnt xs) {g : Nat} {t : TypeId} {cs : Array Value} (hg : Blk w g t cs) (hne : e ≠ t) : ¬ MapO bm f g := by
  rintro (rfl | ⟨s, hs⟩)
  · obtain ⟨D, hD, _⟩ := h.map
    exact map_kind hD hg rfl
  · exact own_kind (h.rows s) hg hne hs
theorem MapR.kinds (h : MapR w base e size bm n f cnt xs) {base' size' m : Nat} {t : TypeId} {v : Value} {ys : List Value} (hg : w.ownsRow base' t size' v m ys) (hne : e ≠ t) {k : Nat} (hk : v.ownBlock = some k) : ¬ MapO bm f k := by
  rintro (rfl | ⟨s, hs⟩)
  · obtain ⟨D, hD, _⟩ := h.map
    exact map_own hD hg hk
  · exact own_kinds (h.rows s) hg hne hs hk
theorem MapR.look (h : MapR w base e size bm n f cnt xs) {tm te : TypeId} (htm : Tryd.prog.underlying tm = some (.map 9 te)) (hz : (zeroValue te).run Tryd.prog w = .ok (.slice none 0 0) w) {s : ByteArray} (hs : s.size ≤ maxLen) :
    (Instr.lookup tm (.map (some bm)) (.string s) false).run Tryd.prog w = .ok (f s) w := by
  obtain ⟨D, hD, hM, hA⟩ := h.map
  have hkey := Go.WideMaps.keyOf_string_mk (P := Tryd.prog) Tryd.underlying9 hs
  obtain ⟨v, ps, hrun, hv⟩ := hD.lookup keyS htm hz (hElem_mk .nil) hkey
  have hat := hA s
  unfold kdS at hat
  rw [hat] at hv
  obtain rfl := hElem_inv (.own (h.rows s)) hv
  exact hrun
/-- A slice is stored that has grown out of the one that stood there. -/
theorem MapR.put (h : MapR w base e size bm n f cnt xs) {tm te : TypeId} (htm : Tryd.prog.underlying tm = some (.map 9 te)) {s : ByteArray} (hs : s.size ≤ maxLen) (hn : n < maxLen) {w1 : World} {v' : Value} {m : Nat} {ys : List Value}
    (hg : w.grownBy w1 (f s).ownBlock) (hown : w1.ownsRow base e size v' m ys) (hat : v'.ownBlock = (f s).ownBlock ∨ ∃ k, v'.ownBlock = some k ∧ w.heap.size ≤ k) :
    ∃ w2, (Instr.mapUpdate tm (.map (some bm)) (.string s) v').run Tryd.prog w1 = .ok () w2 ∧ w1.grownBy w2 (some bm) ∧
      MapR w2 base e size bm (n + 1) (fun x => if x = s then v' else f x) (fun x => if x = s then m else cnt x) (fun x => if x = s then ys else xs x) := by
  obtain ⟨D, hD, hM, hA⟩ := h.map
  have hkey := Go.WideMaps.keyOf_string_mk (P := Tryd.prog) Tryd.underlying9 hs
  have hD1 : w1.ownsMap Tryd.prog 9 hElem bm n D := hD.kept hg (fun e => h.bm_row s e.symm)
  obtain ⟨w2, hrun, hD2, hg2⟩ := hD1.update keyS htm hn hkey (hElem_mk (.own hown))
  have hsz := hg.size
  refine ⟨w2, hrun, hg2, ⟨⟨_, hD2, hM.put _ _, fun x => ?_⟩, fun x => ?_, fun x y k hxy hx => ?_, h.far⟩⟩
  · show (D.put (kdS s) (dH v')).atKey (kdS x) _ = _
    by_cases hx : x = s
    · subst hx
      rw [if_pos rfl]
      exact Maps.atKey_put_same hM (kdS_key _) _ _
    · rw [if_neg hx]
      exact (Maps.atKey_put_other (fun e => hx (kdS_inj _ _ e)) _ _).trans (hA x)
  · by_cases hx : x = s
    · subst hx
      simp only [if_pos rfl]
      refine hown.kept hg2 ?_
      cases hv : v'.ownBlock with
      | none => exact .inl rfl
      | some k =>
        refine .inr fun e => ?_
        injection e with e
        subst e
        rcases hat with h1 | ⟨j, h1, h2⟩
        · rw [hv] at h1; exact h.bm_row _ h1.symm
        · rw [hv] at h1; injection h1 with h1; have := h.lt; omega
    · simp only [if_neg hx]
      have h1 : w1.ownsRow base e size (f x) (cnt x) (xs x) := (h.rows x).kept hg (by
        cases hv : (f x).ownBlock with
        | none => exact .inl rfl
        | some k => exact .inr fun e => h.apart x s k hx hv e.symm)
      refine h1.kept hg2 ?_
      cases hv : (f x).ownBlock with
      | none => exact .inl rfl
      | some k => exact .inr fun e => h.bm_row x (by rw [hv, e])
  · have key : ∀ z, z ≠ s → ∀ k, (f z).ownBlock = some k → v'.ownBlock ≠ some k := fun z hz k hk e => by
      rcases hat with h1 | ⟨j, h1, h2⟩
      · rw [e] at h1; exact h.apart z s k hz hk h1.symm
      · rw [e] at h1
        injection h1 with h1
        have := ((h.rows z).lt k hk).2
        omega
    by_cases hx' : x = s
    · rw [if_pos hx'] at hx
      rw [if_neg (fun e => hxy (hx'.trans e.symm))]
      intro e
      exact key y (fun e => hxy (hx'.trans e.symm)) k e hx
    · rw [if_neg hx'] at hx
      by_cases hy : y = s
      · rw [if_pos hy]
        exact key x hx' k hx
      · rw [if_neg hy]
        exact h.apart x y k hxy hx
theorem MapR.made (w : World) (e : TypeId) (size : Nat) : MapR (w.alloc (.map #[] 0)) w.heap.size e size w.heap.size 0 (fun _ => .slice none 0 0) (fun _ => 0) (fun _ => []) :=
  ⟨⟨_, World.ownsMap_made _ _ _ _, Maps.isMap_empty, fun _ => rfl⟩, fun s => World.ownsRow_nil _ _ _ _, fun s t k _ h => by simp [Value.ownBlock] at h, Nat.le_refl _⟩
end
end Go.Proofs.YtinldjjbfhpnkaaDoor
