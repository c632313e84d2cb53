/- A pool in memory; whether a repository may be added. -/
import Derived.Test.YtinldjjbfhpnkaaDoorPRepo
namespace Go.Proofs.YtinldjjbfhpnkaaDoor
set_option linter.unusedSimpArgs false
set_option linter.unusedVariables false
open Go.RowKit

/-- A package that a pool keeps: how it lies, the place of its repository. -/
structure Kep where
  p : Pkg
  ss : Nat → Value
  fs : Value
  rep : Nat
def cells13 (l : List Kep) : List Value := l.flatMap fun k => (rowK k.p k.ss k.fs (k.rep : Int)).toList
theorem cells13_append (a b : List Kep) : cells13 (a ++ b) = cells13 a ++ cells13 b := by simp [cells13]
theorem cells13_cons (k : Kep) (l : List Kep) : cells13 (k :: l) = (rowK k.p k.ss k.fs (k.rep : Int)).toList ++ cells13 l := rfl
theorem cells13_len (l : List Kep) : (cells13 l).length = l.length * 13 := by
  induction l with
  | nil => rfl
  | cons x r ih => rw [cells13_cons, List.length_append, ih]; simp [rowK]; omega
theorem cells13_at {l : List Kep} {k : Nat} {x : Kep} (h : l[k]? = some x) {j : Nat} (hj : j < 13) : (cells13 l)[k * 13 + j]? = (rowK x.p x.ss x.fs (x.rep : Int))[j]? := by
  induction l generalizing k with
  | nil => cases h
  | cons y r ih =>
    rw [cells13_cons]
    have hlen : (rowK y.p y.ss y.fs (y.rep : Int)).toList.length = 13 := rfl
    cases k with
    | zero =>
      injection h with h
      subst h
      rw [List.getElem?_append_left (by rw [hlen]; omega), Nat.zero_mul, Nat.zero_add, Array.getElem?_toList]
    | succ k =>
      rw [List.getElem?_append_right (by rw [hlen]; omega), hlen]
      have := ih (k := k) (by simpa using h)
      rw [show (k + 1) * 13 + j - 13 = k * 13 + j by omega]
      exact this
/-- The numbers of the packages of a name. -/
def idxF (s : ByteArray) : Nat → List Kep → List Nat
  | _, [] => []
  | n, k :: r => if k.p.name = s then n :: idxF s (n + 1) r else idxF s (n + 1) r
theorem idxF_snoc (s : ByteArray) (k : Kep) : ∀ (l : List Kep) (n : Nat), idxF s n (l ++ [k]) = idxF s n l ++ if k.p.name = s then [n + l.length] else []
  | [], n => by simp only [List.nil_append, idxF]; split <;> simp
  | x :: l, n => by
    simp only [List.cons_append, idxF, idxF_snoc s k l (n + 1), List.length_cons]
    split <;> split <;> simp <;> omega
def numV (l : List Nat) : List Value := l.map fun i => .int .i64 ((i : Nat) : Int)

/-- Block g is a pool that keeps ks, and has numbered km. -/
structure PStG (w : World) (base g : Nat) (O S T : Nat → Prop) (kind : Int) (reps : List Rep) (ks km : List Kep) (vr vp : Value) (bm : Nat) (f : ByteArray → Value) : Prop where
  blk : Blk w g 60 #[.int .i64 kind, vr, vp, .map (some bm)]
  repo : w.ownsRow base 34 4 vr reps.length (cells4 reps)
  pack : w.ownsRow base 62 13 vp ks.length (cells13 ks)
  lays : ∀ k ∈ ks, PkgAt w S T k.p k.ss k.fs
  clean : CleanS w S
  cleanT : CleanT w T
  map : MapR w base 3 1 bm km.length f (fun s => (idxF s 0 km).length) (fun s => numV (idxF s 0 km))
  gfar : base ≤ g
  mine : ∀ k, O k ↔ k = g ∨ vr.ownBlock = some k ∨ vp.ownBlock = some k ∨ MapO bm f k
abbrev PSt (w : World) (base g : Nat) (O S T : Nat → Prop) (kind : Int) (reps : List Rep) (ks : List Kep) (vr vp : Value) (bm : Nat) (f : ByteArray → Value) : Prop := PStG w base g O S T kind reps ks ks vr vp bm f
def PoolAt (w : World) (base g : Nat) (O S T : Nat → Prop) (kind : Int) (reps : List Rep) (ks : List Kep) : Prop := ∃ vr vp bm f, PSt w base g O S T kind reps ks vr vp bm f
/-- The blocks of a pool. -/
def PoolO (g : Nat) (vr vp : Value) (bm : Nat) (f : ByteArray → Value) (k : Nat) : Prop := k = g ∨ vr.ownBlock = some k ∨ vp.ownBlock = some k ∨ MapO bm f k
section
variable {w w' : World} {base g bm : Nat} {O S T : Nat → Prop} {kind : Int} {reps : List Rep} {ks km : List Kep} {vr vp : Value} {f : ByteArray → Value}
theorem PStG.O_lt (h : PStG w base g O S T kind reps ks km vr vp bm f) {k : Nat} (hk : O k) : base ≤ k ∧ k < w.heap.size := by
  rcases (h.mine k).1 hk with rfl | hk | hk | hk
  · exact ⟨h.gfar, h.blk.lt⟩
  · exact h.repo.lt k hk
  · exact h.pack.lt k hk
  · exact h.map.O_lt hk
/-- What is no block of its own is apart from it by its type. -/
theorem PStG.not_O (h : PStG w base g O S T kind reps ks km vr vp bm f) {b : Nat} {t : TypeId} {cs : Array Value} (hb : Blk w b t cs) (h1 : t ≠ 60) (h2 : t ≠ 34) (h3 : t ≠ 62) (h4 : t ≠ 3) : ¬ O b := fun hk => by
  rcases (h.mine b).1 hk with rfl | hk | hk | hk
  · exact Blk.kind hb h.blk h1 rfl
  · exact own_kind h.repo hb (Ne.symm h2) hk
  · exact own_kind h.pack hb (Ne.symm h3) hk
  · exact h.map.kind hb (Ne.symm h4) hk
theorem PStG.S_O (h : PStG w base g O S T kind reps ks km vr vp bm f) {b : Nat} (hb : S b) : ¬ O b := by
  obtain ⟨cs, hc⟩ := h.clean b hb
  exact h.not_O hc (by decide) (by decide) (by decide) (by decide)
theorem PStG.T_O (h : PStG w base g O S T kind reps ks km vr vp bm f) {b : Nat} (hb : T b) : ¬ O b := by
  obtain ⟨cs, hc⟩ := h.cleanT b hb
  exact h.not_O hc (by decide) (by decide) (by decide) (by decide)
theorem PStG.turned {Q : Nat → Prop} (h : PStG w base g O S T kind reps ks km vr vp bm f) (ht : TurnedP Q w w') (hQ : ∀ k, Q k → ¬ O k ∧ ¬ S k ∧ ¬ T k) : PStG w' base g O S T kind reps ks km vr vp bm f := by
  have hs : StayS S w w' := fun b hb hl => ht.block b hl fun hq => (hQ b hq).2.1 hb
  have hs2 : StayS T w w' := fun b hb hl => ht.block b hl fun hq => (hQ b hq).2.2 hb
  have hn : ∀ k, O k → ¬ Q k := fun k hk hq => (hQ k hq).1 hk
  exact ⟨h.blk.turnedP ht (hn g ((h.mine g).2 (.inl rfl))), own_turnedP h.repo ht fun k hk => hn k ((h.mine k).2 (.inr (.inl hk))), own_turnedP h.pack ht fun k hk => hn k ((h.mine k).2 (.inr (.inr (.inl hk)))),
    fun k hk => (h.lays k hk).stay (fun _ h => h) (fun _ h => h) hs hs2, h.clean.stay hs, h.cleanT.stay hs2, h.map.turned ht fun k hk => hn k ((h.mine k).2 (.inr (.inr (.inr hk)))), h.gfar, h.mine⟩
theorem PStG.below (h : PStG w base g O S T kind reps ks km vr vp bm f) (hb : Below w.heap.size w w') : PStG w' base g O S T kind reps ks km vr vp bm f :=
  h.turned (TurnedP.of_below hb fun _ => False) fun k hk => hk.elim
theorem PoolAt.below (h : PoolAt w base g O S T kind reps ks) (hb : Below w.heap.size w w') : PoolAt w' base g O S T kind reps ks := by
  obtain ⟨vr, vp, bm, f, h⟩ := h
  exact ⟨vr, vp, bm, f, h.below hb⟩
theorem PoolAt.turned {Q : Nat → Prop} (h : PoolAt w base g O S T kind reps ks) (ht : TurnedP Q w w') (hQ : ∀ k, Q k → ¬ O k ∧ ¬ S k ∧ ¬ T k) : PoolAt w' base g O S T kind reps ks := by
  obtain ⟨vr, vp, bm, f, h⟩ := h
  exact ⟨vr, vp, bm, f, h.turned ht hQ⟩
/-- One package more has a number. -/
theorem PStG.number (h : PSt w base g O S T kind reps ks vr vp bm f) (kk : Kep) (hsz : kk.p.name.size ≤ maxLen) (hn : ks.length < maxLen) {w1 : World} {v' : Value}
    (hg : w.grownBy w1 (f kk.p.name).ownBlock) (hown : w1.ownsRow base 3 1 v' ((idxF kk.p.name 0 ks).length + 1) (numV (idxF kk.p.name 0 ks) ++ [.int .i64 (ks.length : Int)])) (hat : v'.ownBlock = (f kk.p.name).ownBlock ∨ v'.ownBlock = some w.heap.size) :
    ∃ w2 f2, (Instr.mapUpdate 57 (.map (some bm)) (.string kk.p.name) v').run Tryd.prog w1 = .ok () w2 ∧ PStG w2 base g (PoolO g vr vp bm f2) S T kind reps ks (ks ++ [kk]) vr vp bm f2 ∧ TurnedP O w w2 ∧ ∀ k, PoolO g vr vp bm f2 k → O k ∨ w.heap.size ≤ k := by
  have hat' : v'.ownBlock = (f kk.p.name).ownBlock ∨ ∃ k, v'.ownBlock = some k ∧ w.heap.size ≤ k := hat.imp id fun e => ⟨_, e, Nat.le_refl _⟩
  obtain ⟨w2, hrun, hg2, hM⟩ := h.map.put Tryd.underlying57 hsz hn hg hown hat'
  have htM : TurnedP (MapO bm f) w w2 := ((TurnedP.refl _ w).grown hg fun k _ e => .inr ⟨_, e⟩).grown hg2 fun k _ e => by injection e with e; exact .inl e.symm
  have hsS : StayS S w w2 := fun b hb hl => htM.block b hl fun hm => by
    obtain ⟨cs, hc⟩ := h.clean b hb
    exact h.map.kind hc (by decide) hm
  have hsT : StayS T w w2 := fun b hb hl => htM.block b hl fun hm => by
    obtain ⟨cs, hc⟩ := h.cleanT b hb
    exact h.map.kind hc (by decide) hm
  have e1 : (fun s => (idxF s 0 (ks ++ [kk])).length) = fun x => if x = kk.p.name then (idxF kk.p.name 0 ks).length + 1 else (idxF x 0 ks).length := by
    funext x
    rw [idxF_snoc]
    by_cases hx : x = kk.p.name
    · subst hx; simp
    · rw [if_neg (fun e => hx e.symm), if_neg hx, List.append_nil]
  have e2 : (fun s => numV (idxF s 0 (ks ++ [kk]))) = fun x => if x = kk.p.name then numV (idxF kk.p.name 0 ks) ++ [.int .i64 (ks.length : Int)] else numV (idxF x 0 ks) := by
    funext x
    rw [idxF_snoc]
    by_cases hx : x = kk.p.name
    · subst hx; simp [numV]
    · rw [if_neg (fun e => hx e.symm), if_neg hx, List.append_nil]
  have e3 : (ks ++ [kk]).length = ks.length + 1 := by simp
  refine ⟨w2, _, hrun, ⟨h.blk.turnedP htM (h.map.kind h.blk (by decide)), own_turnedP h.repo htM fun k hk => h.map.kinds h.repo (by decide) hk, own_turnedP h.pack htM fun k hk => h.map.kinds h.pack (by decide) hk,
    fun k hk => (h.lays k hk).stay (fun _ h => h) (fun _ h => h) hsS hsT, h.clean.stay hsS, h.cleanT.stay hsT, by rw [e1, e2, e3]; exact hM, h.gfar, fun k => Iff.rfl⟩, htM.more fun k _ hk => (h.mine k).2 (.inr (.inr (.inr hk))), fun k hk => ?_⟩
  rcases hk with hk | hk | hk | hk
  · exact .inl ((h.mine k).2 (.inl hk))
  · exact .inl ((h.mine k).2 (.inr (.inl hk)))
  · exact .inl ((h.mine k).2 (.inr (.inr (.inl hk))))
  · rcases hk with hk | ⟨s, hs⟩
    · exact .inl ((h.mine k).2 (.inr (.inr (.inr (.inl hk)))))
    · simp only at hs
      by_cases hx : s = kk.p.name
      · rw [if_pos hx] at hs
        rcases hat with e | e
        · rw [hs] at e
          exact .inl ((h.mine k).2 (.inr (.inr (.inr (.inr ⟨_, e.symm⟩)))))
        · rw [hs] at e
          injection e with e
          exact .inr (by omega)
      · rw [if_neg hx] at hs
        exact .inl ((h.mine k).2 (.inr (.inr (.inr (.inr ⟨_, hs⟩)))))
/-- .. and is put behind the others. -/
theorem PStG.keep {kk : Kep} (h : PStG w base g O S T kind reps ks (ks ++ [kk]) vr vp bm f) {S3 T3 : Nat → Prop} (hP : PkgAt w S3 T3 kk.p kk.ss kk.fs) (hC : CleanS w S3) (hT : CleanT w T3) {w1 : World} {vp' : Value}
    (hg : w.grownBy w1 vp.ownBlock) (hown : w1.ownsRow base 62 13 vp' (ks.length + 1) (cells13 ks ++ (rowK kk.p kk.ss kk.fs (kk.rep : Int)).toList)) (hat : vp'.ownBlock = vp.ownBlock ∨ vp'.ownBlock = some w.heap.size) :
    PSt (w1.setCell ⟨g, 2, none⟩ vp') base g (PoolO g vr vp' bm f) (fun b => S b ∨ S3 b) (fun b => T b ∨ T3 b) kind reps (ks ++ [kk]) vr vp' bm f ∧ TurnedP O w (w1.setCell ⟨g, 2, none⟩ vp') ∧ ∀ k, PoolO g vr vp' bm f k → O k ∨ w.heap.size ≤ k := by
  have htQ : TurnedP (fun k => k = g ∨ vp.ownBlock = some k) w (w1.setCell ⟨g, 2, none⟩ vp') := ((TurnedP.refl _ w).grown hg fun k _ e => .inr e).setCell (fun _ => .inl rfl) _
  have hgO : O g := (h.mine g).2 (.inl rfl)
  have ht1 : TurnedP (fun k => vp.ownBlock = some k) w w1 := (TurnedP.refl _ w).grown hg fun k _ e => e
  have hst : ∀ U : Nat → Prop, (∀ b, U b → ∃ t cs, Blk w b t cs ∧ t ≠ 60 ∧ t ≠ 62) → StayS U w (w1.setCell ⟨g, 2, none⟩ vp') := fun U hU b hb hl => htQ.block b hl fun hm => by
    obtain ⟨t, cs, hc, n1, n2⟩ := hU b hb
    rcases hm with rfl | hm
    · exact Blk.kind hc h.blk n1 rfl
    · exact own_kind h.pack hc (Ne.symm n2) hm
  have hS1 := hst S fun b hb => by obtain ⟨cs, hc⟩ := h.clean b hb; exact ⟨_, cs, hc, by decide, by decide⟩
  have hT1 := hst T fun b hb => by obtain ⟨cs, hc⟩ := h.cleanT b hb; exact ⟨_, cs, hc, by decide, by decide⟩
  have hS3 := hst S3 fun b hb => by obtain ⟨cs, hc⟩ := hC b hb; exact ⟨_, cs, hc, by decide, by decide⟩
  have hT3 := hst T3 fun b hb => by obtain ⟨cs, hc⟩ := hT b hb; exact ⟨_, cs, hc, by decide, by decide⟩
  have hb1 : Blk w1 g 60 #[.int .i64 kind, vr, vp, .map (some bm)] := h.blk.turnedP ht1 (own_kind h.pack h.blk (by decide))
  have hvp : vp'.ownBlock ≠ some g := fun e => by
    rcases hat with h1 | h1
    · rw [e] at h1; exact own_kind h.pack h.blk (by decide) h1.symm
    · rw [e] at h1; injection h1 with h1; have := h.blk.lt; omega
  refine ⟨⟨hb1.set_ 2 vp', own_turnedP h.repo htQ fun k hk hm => ?_, ?_, fun k hk => ?_, fun b hb => ?_, fun b hb => ?_, h.map.turned htQ fun k hk hm => ?_, h.gfar, fun k => Iff.rfl⟩, htQ.more fun k _ hk => ?_, fun k hk => ?_⟩
  · rcases hm with rfl | hm
    · exact own_kind h.repo h.blk (by decide) hk
    · exact own_kinds h.repo h.pack (by decide) hk hm
  · rw [cells13_append, List.length_append]
    refine own_setCell (p := ⟨g, 2, none⟩) ?_ hvp _
    have : cells13 [kk] = (rowK kk.p kk.ss kk.fs (kk.rep : Int)).toList := by simp [cells13]
    rw [this]
    exact hown
  · rcases List.mem_append.1 hk with hk | hk
    · exact (h.lays k hk).stay (fun _ h => .inl h) (fun _ h => .inl h) hS1 hT1
    · simp at hk; subst hk
      exact hP.stay (fun _ h => .inr h) (fun _ h => .inr h) hS3 hT3
  · rcases hb with hb | hb
    · exact h.clean.stay hS1 b hb
    · exact hC.stay hS3 b hb
  · rcases hb with hb | hb
    · exact h.cleanT.stay hT1 b hb
    · exact hT.stay hT3 b hb
  · rcases hm with rfl | hm
    · exact h.map.kind h.blk (by decide) hk
    · exact h.map.kinds h.pack (by decide) hm hk
  · rcases hk with rfl | hk
    · exact hgO
    · exact (h.mine k).2 (.inr (.inr (.inl hk)))
  · rcases hk with hk | hk | hk | hk
    · exact .inl ((h.mine k).2 (.inl hk))
    · exact .inl ((h.mine k).2 (.inr (.inl hk)))
    · rcases hat with e | e
      · rw [hk] at e; exact .inl ((h.mine k).2 (.inr (.inr (.inl e.symm))))
      · rw [hk] at e; injection e with e; exact .inr (by omega)
    · exact .inl ((h.mine k).2 (.inr (.inr (.inr hk))))
/-- One repository more is put behind the others. -/
theorem PStG.found (h : PSt w base g O S T kind reps ks vr vp bm f) (r : Rep) {w1 : World} {vr' : Value}
    (hg : w.grownBy w1 vr.ownBlock) (hown : w1.ownsRow base 34 4 vr' (reps.length + 1) (cells4 reps ++ (rowR r).toList)) (hat : vr'.ownBlock = vr.ownBlock ∨ vr'.ownBlock = some w.heap.size) :
    PSt (w1.setCell ⟨g, 1, none⟩ vr') base g (PoolO g vr' vp bm f) S T kind (reps ++ [r]) ks vr' vp bm f ∧ TurnedP O w (w1.setCell ⟨g, 1, none⟩ vr') ∧ ∀ k, PoolO g vr' vp bm f k → O k ∨ w.heap.size ≤ k := by
  have htQ : TurnedP (fun k => k = g ∨ vr.ownBlock = some k) w (w1.setCell ⟨g, 1, none⟩ vr') := ((TurnedP.refl _ w).grown hg fun k _ e => .inr e).setCell (fun _ => .inl rfl) _
  have hgO : O g := (h.mine g).2 (.inl rfl)
  have ht1 : TurnedP (fun k => vr.ownBlock = some k) w w1 := (TurnedP.refl _ w).grown hg fun k _ e => e
  have hst : ∀ U : Nat → Prop, (∀ b, U b → ∃ t cs, Blk w b t cs ∧ t ≠ 60 ∧ t ≠ 34) → StayS U w (w1.setCell ⟨g, 1, none⟩ vr') := fun U hU b hb hl => htQ.block b hl fun hm => by
    obtain ⟨t, cs, hc, n1, n2⟩ := hU b hb
    rcases hm with rfl | hm
    · exact Blk.kind hc h.blk n1 rfl
    · exact own_kind h.repo hc (Ne.symm n2) hm
  have hS1 := hst S fun b hb => by obtain ⟨cs, hc⟩ := h.clean b hb; exact ⟨_, cs, hc, by decide, by decide⟩
  have hT1 := hst T fun b hb => by obtain ⟨cs, hc⟩ := h.cleanT b hb; exact ⟨_, cs, hc, by decide, by decide⟩
  have hb1 : Blk w1 g 60 #[.int .i64 kind, vr, vp, .map (some bm)] := h.blk.turnedP ht1 (own_kind h.repo h.blk (by decide))
  have hvr : vr'.ownBlock ≠ some g := fun e => by
    rcases hat with h1 | h1
    · rw [e] at h1; exact own_kind h.repo h.blk (by decide) h1.symm
    · rw [e] at h1; injection h1 with h1; have := h.blk.lt; omega
  refine ⟨⟨hb1.set_ 1 vr', ?_, own_turnedP h.pack htQ fun k hk hm => ?_, fun k hk => (h.lays k hk).stay (fun _ h => h) (fun _ h => h) hS1 hT1, h.clean.stay hS1, h.cleanT.stay hT1, h.map.turned htQ fun k hk hm => ?_, h.gfar, fun k => Iff.rfl⟩, htQ.more fun k _ hk => ?_, fun k hk => ?_⟩
  · rw [cells4_append, List.length_append]
    refine own_setCell (p := ⟨g, 1, none⟩) ?_ hvr _
    have : cells4 [r] = (rowR r).toList := by simp [cells4, rowR]
    rw [this]
    exact hown
  · rcases hm with rfl | hm
    · exact own_kind h.pack h.blk (by decide) hk
    · exact own_kinds h.pack h.repo (by decide) hk hm
  · rcases hm with rfl | hm
    · exact h.map.kind h.blk (by decide) hk
    · exact h.map.kinds h.repo (by decide) hm hk
  · rcases hk with rfl | hk
    · exact hgO
    · exact (h.mine k).2 (.inr (.inl hk))
  · rcases hk with hk | hk | hk | hk
    · exact .inl ((h.mine k).2 (.inl hk))
    · rcases hat with e | e
      · rw [hk] at e; exact .inl ((h.mine k).2 (.inr (.inl e.symm)))
      · rw [hk] at e; injection e with e; exact .inr (by omega)
    · exact .inl ((h.mine k).2 (.inr (.inr (.inl hk))))
    · exact .inl ((h.mine k).2 (.inr (.inr (.inr hk))))
end

set_option maxHeartbeats 1000000 in
set_option maxRecDepth 100000 in
theorem hasRepo_any (fn : FuncId) (cap : Array Value) (ef : ∀ args w, (callFunc fn args).run Tryd.prog w = .ok (.enter fn args) w) (q : Rep → Bool) {w : World} {base g bm : Nat} {O S T : Nat → Prop} {kind : Int} {reps : List Rep} {ks : List Kep} {vr vp : Value} {f : ByteArray → Value}
    (h : PSt w base g O S T kind reps ks vr vp bm f) (hq : AskRep fn cap q w) :
    Calls Tryd.prog 59 #[.pointer (some ⟨g, 0, none⟩), .func (.func fn) #[] cap] w fun e w' => e = .returned (.bool (reps.any q)) ∧ Below w.heap.size w w' := by
  obtain ⟨A, c, rfl, h1, h2⟩ := own_form' h.repo
  have k1 := h.blk.cell 1
  simp at k1
  have C := Lib.hid (repContains_any fn cap ef q reps A c base w h.repo h2 hq)
  clear h hq h1 h2
  go_enter Tryd.func59, Tryd.ntmps59
  go_wp2_with fail
  refine C.out.mono ?_
  rintro e w1 ⟨rfl, hb⟩
  have HB := Lib.hid hb
  clear hb C
  go_wp2_with fail
  go_ret
  exact ⟨rfl, HB.out⟩
end Go.Proofs.YtinldjjbfhpnkaaDoor
