/- The contract of attrs.New: whatever order its parts are made in. -/
import Derived.Test.YthgagobdkcikiaaDoorStM
import Derived.Test.YthgagobdkcikiaaDoorInvR
namespace Go.Proofs.YthgagobdkcikiaaDoor
set_option linter.unusedSimpArgs false
set_option linter.unusedVariables false
open Go.RowKit

def rootD : DirE := (0, ⟨#[]⟩)
def zD : Value := .agg #[.int .i64 0, .string ⟨#[]⟩]
def EMap (w0 w : World) (v : Value) : Prop := ∃ b, v = .map (some b) ∧ w0.heap.size ≤ b ∧ w.heap[b]? = some (.map #[] 0)
def PMap (w0 w : World) (v : Value) : Prop := ∃ b, v = .map (some b) ∧ w0.heap.size ≤ b ∧ ∃ D, w.ownsMap Tryd.prog 50 (plainElem Tryd.prog 3) b 1 D ∧ Agrees kdD okD D (ixI [rootD])
def DRow (w0 w : World) (v : Value) : Prop := ∃ b, v = .slice (some ⟨b, 0, none⟩) 1 1 ∧ w0.heap.size ≤ b ∧ Blk w b 50 #[.int .i64 0, .string ⟨#[]⟩]
structure NSt (w0 : World) (b0 b1 b2 b3 b4 b5 b6 b7 b8 b9 b10 : Bool) (v0 v3 v4 v5 v6 v7 v8 v9 v10 v11 : Value) (w : World) : Prop where
  below : Below w0.heap.size w0 w
  c0 : b0 = true → EMap w0 w v3
  c1 : b1 = true → EMap w0 w v4
  c2 : b2 = true → v5 = zD
  c3 : b3 = true → b2 = true ∧ DRow w0 w v6
  c4 : b4 = true → b6 = false → EMap w0 w v7
  c5 : b5 = true → v8 = zD
  c6 : b6 = true → b4 = true ∧ b5 = true ∧ PMap w0 w v7
  c7 : b7 = true → b6 = true ∧ v9 = v7
  c8 : b8 = true → b0 = true ∧ b1 = true ∧ b3 = true ∧ b7 = true ∧ v10 = .agg #[.slice none 0 0, v3, v4, v6, v9]
  c9 : b9 = true → b8 = true ∧ ∃ b, v11 = .pointer (some ⟨b, 0, none⟩) ∧ w0.heap.size ≤ b ∧ Blk w b 56 #[.slice none 0 0, v3, v4, v6, v9]
  c10 : b10 = true → b9 = true ∧ v0 = v11
  d01 : b0 = true → b1 = true → v3 ≠ v4
  d04 : b0 = true → b4 = true → v3 ≠ v7
  d14 : b1 = true → b4 = true → v4 ≠ v7

section
variable {w0 w w' : World} {b0 b1 b2 b3 b4 b5 b6 b7 b8 b9 b10 : Bool} {v0 v3 v4 v5 v6 v7 v8 v9 v10 v11 v : Value}
theorem EMap.alloc (h : EMap w0 w v) (o : Obj) : EMap w0 (w.alloc o) v := by
  obtain ⟨b, rfl, h1, h2⟩ := h
  exact ⟨b, rfl, h1, (Below.heap_alloc w o b (Array.getElem?_eq_some_iff.1 h2).1).trans h2⟩
theorem EMap.new (h : w0.heap.size ≤ w.heap.size) : EMap w0 (w.alloc (.map #[] 0)) (.map (some w.heap.size)) := ⟨_, rfl, h, heap_alloc_new w _⟩
theorem EMap.old (h : EMap w0 w v) : v ≠ .map (some w.heap.size) := by
  obtain ⟨b, rfl, h1, h2⟩ := h
  intro e
  have := (Array.getElem?_eq_some_iff.1 h2).1
  injection e with e
  injection e with e
  omega
theorem PMap.old (h : PMap w0 w v) : v ≠ .map (some w.heap.size) := by
  obtain ⟨b, rfl, h1, D, h2, _⟩ := h
  intro e
  have := h2.lt
  injection e with e
  injection e with e
  omega
theorem PMap.alloc (h : PMap w0 w v) (o : Obj) : PMap w0 (w.alloc o) v := by
  obtain ⟨b, rfl, h1, D, h2, h3⟩ := h
  exact ⟨b, rfl, h1, D, h2.alloc o, h3⟩
theorem NSt.alloc (h : NSt w0 b0 b1 b2 b3 b4 b5 b6 b7 b8 b9 b10 v0 v3 v4 v5 v6 v7 v8 v9 v10 v11 w) (o : Obj) : NSt w0 b0 b1 b2 b3 b4 b5 b6 b7 b8 b9 b10 v0 v3 v4 v5 v6 v7 v8 v9 v10 v11 (w.alloc o) :=
  { h with
    below := h.below.alloc h.below.size o
    c0 := fun hb => (h.c0 hb).alloc o
    c1 := fun hb => (h.c1 hb).alloc o
    c3 := fun hb => by obtain ⟨e, b, h1, h2, h3⟩ := h.c3 hb; exact ⟨e, b, h1, h2, h3.alloc o⟩
    c4 := fun hb h6 => (h.c4 hb h6).alloc o
    c6 := fun hb => ⟨(h.c6 hb).1, (h.c6 hb).2.1, (h.c6 hb).2.2.alloc o⟩
    c9 := fun hb => by obtain ⟨e, b, h1, h2, h3⟩ := h.c9 hb; exact ⟨e, b, h1, h2, h3.alloc o⟩ }
theorem NSt.s0 (h : NSt w0 false b1 b2 b3 b4 b5 b6 b7 b8 b9 b10 v0 v3 v4 v5 v6 v7 v8 v9 v10 v11 w) : NSt w0 true b1 b2 b3 b4 b5 b6 b7 b8 b9 b10 v0 (.map (some w.heap.size)) v4 v5 v6 v7 v8 v9 v10 v11 (w.alloc (.map #[] 0)) :=
  { h.alloc (.map #[] 0) with
    c0 := fun _ => EMap.new h.below.size
    c8 := fun hb => by cases (h.c8 hb).1
    c9 := fun hb => by cases (h.c8 (h.c9 hb).1).1
    d01 := fun _ hb => ((h.c1 hb).old).symm
    d04 := fun _ hb => by
      cases b6 with
      | false => exact ((h.c4 hb rfl).old).symm
      | true => exact ((h.c6 rfl).2.2.old).symm }
theorem NSt.s1 (h : NSt w0 b0 false b2 b3 b4 b5 b6 b7 b8 b9 b10 v0 v3 v4 v5 v6 v7 v8 v9 v10 v11 w) : NSt w0 b0 true b2 b3 b4 b5 b6 b7 b8 b9 b10 v0 v3 (.map (some w.heap.size)) v5 v6 v7 v8 v9 v10 v11 (w.alloc (.map #[] 0)) :=
  { h.alloc (.map #[] 0) with
    c1 := fun _ => EMap.new h.below.size
    c8 := fun hb => by cases (h.c8 hb).2.1
    c9 := fun hb => by cases (h.c8 (h.c9 hb).1).2.1
    d01 := fun hb _ => (h.c0 hb).old
    d14 := fun _ hb => by
      cases b6 with
      | false => exact ((h.c4 hb rfl).old).symm
      | true => exact ((h.c6 rfl).2.2.old).symm }
theorem NSt.s2 (h : NSt w0 b0 b1 false b3 b4 b5 b6 b7 b8 b9 b10 v0 v3 v4 v5 v6 v7 v8 v9 v10 v11 w) : NSt w0 b0 b1 true b3 b4 b5 b6 b7 b8 b9 b10 v0 v3 v4 zD v6 v7 v8 v9 v10 v11 w :=
  { h with c2 := fun _ => rfl, c3 := fun hb => by cases (h.c3 hb).1 }
theorem NSt.s3 (h : NSt w0 b0 b1 true false b4 b5 b6 b7 b8 b9 b10 v0 v3 v4 v5 v6 v7 v8 v9 v10 v11 w) : NSt w0 b0 b1 true true b4 b5 b6 b7 b8 b9 b10 v0 v3 v4 v5 (.slice (some ⟨w.heap.size, 0, none⟩) 1 1) v7 v8 v9 v10 v11 (w.alloc (.cells #[.int .i64 0, .string ⟨#[]⟩] 50)) :=
  { h.alloc _ with
    c3 := fun _ => ⟨rfl, _, rfl, h.below.size, Blk.new _ _ _⟩
    c8 := fun hb => by cases (h.c8 hb).2.2.1
    c9 := fun hb => by cases (h.c8 (h.c9 hb).1).2.2.1 }
theorem NSt.s4 (h : NSt w0 b0 b1 b2 b3 false b5 b6 b7 b8 b9 b10 v0 v3 v4 v5 v6 v7 v8 v9 v10 v11 w) : NSt w0 b0 b1 b2 b3 true b5 b6 b7 b8 b9 b10 v0 v3 v4 v5 v6 (.map (some w.heap.size)) v8 v9 v10 v11 (w.alloc (.map #[] 0)) :=
  { h.alloc (.map #[] 0) with
    c4 := fun _ _ => EMap.new h.below.size
    c6 := fun hb => by cases (h.c6 hb).1
    c7 := fun hb => by cases (h.c6 (h.c7 hb).1).1
    d04 := fun hb _ => (h.c0 hb).old
    d14 := fun hb _ => (h.c1 hb).old }
theorem NSt.s5 (h : NSt w0 b0 b1 b2 b3 b4 false b6 b7 b8 b9 b10 v0 v3 v4 v5 v6 v7 v8 v9 v10 v11 w) : NSt w0 b0 b1 b2 b3 b4 true b6 b7 b8 b9 b10 v0 v3 v4 v5 v6 v7 zD v9 v10 v11 w :=
  { h with c5 := fun _ => rfl, c6 := fun hb => by cases (h.c6 hb).2.1 }
theorem owns_empty {b : Nat} (h : w.heap[b]? = some (.map #[] 0)) {k : TypeId} {R : Value → Option (DataW Unit × List MemPlace)} : w.ownsMap Tryd.prog k R b 0 (.map []) := by
  have hb := (Array.getElem?_eq_some_iff.1 h).1
  obtain ⟨es, clock, h1, h2⟩ := World.ownsMap_made (H := Unit) w Tryd.prog k R
  rw [heap_alloc_new] at h1
  injection h1 with h1
  injection h1 with h1 h3
  subst h1; subst h3
  exact ⟨_, _, h, h2⟩
theorem NSt.s6 (h : NSt w0 b0 b1 b2 b3 true true false b7 b8 b9 b10 v0 v3 v4 v5 v6 v7 v8 v9 v10 v11 w) {b : Nat} (hv : v7 = .map (some b)) {D : DataW Unit} (hm : w'.ownsMap Tryd.prog 50 (plainElem Tryd.prog 3) b 1 D) (hA : Agrees kdD okD D (ixI [rootD])) (hg : w.grownBy w' (some b)) :
    NSt w0 b0 b1 b2 b3 true true true b7 b8 b9 b10 v0 v3 v4 v5 v6 v7 v8 v9 v10 v11 w' := by
  obtain ⟨b', e, hb, hm0⟩ := h.c4 rfl rfl
  obtain rfl : b' = b := by rw [hv] at e; injection e with e; injection e with e; exact e.symm
  exact { h with
    below := ⟨hg.os.trans h.below.os, hg.tape.trans h.below.tape, hg.output.trans h.below.output, Nat.le_trans h.below.size hg.size, fun k hk => (hg.block k (Nat.lt_of_lt_of_le hk h.below.size) (fun e => by injection e with e; omega)).trans (h.below.block k hk)⟩
    c0 := fun h0 => by
      obtain ⟨x, e1, h1, h2⟩ := h.c0 h0
      exact ⟨x, e1, h1, (hg.block x (Array.getElem?_eq_some_iff.1 h2).1 (fun e2 => h.d04 h0 rfl (by rw [e1, hv, e2]))).trans h2⟩
    c1 := fun h0 => by
      obtain ⟨x, e1, h1, h2⟩ := h.c1 h0
      exact ⟨x, e1, h1, (hg.block x (Array.getElem?_eq_some_iff.1 h2).1 (fun e2 => h.d14 h0 rfl (by rw [e1, hv, e2]))).trans h2⟩
    c3 := fun h0 => by
      obtain ⟨h4, x, e1, h1, h2⟩ := h.c3 h0
      refine ⟨h4, x, e1, h1, h2.grown hg (fun e2 => ?_)⟩
      injection e2 with e2
      subst e2
      have h3 : w.heap[x]? = some (.cells #[.int .i64 0, .string ⟨#[]⟩] 50 (0, 0)) := h2
      rw [hm0] at h3; cases h3
    c4 := fun _ hb => by cases hb
    c6 := fun _ => ⟨rfl, rfl, b', hv, hb, D, hm, hA⟩
    c7 := fun hb => by cases (h.c7 hb).1
    c9 := fun hb => by cases (h.c7 (h.c8 (h.c9 hb).1).2.2.2.1).1 }
theorem NSt.s7 (h : NSt w0 b0 b1 b2 b3 b4 b5 true false b8 b9 b10 v0 v3 v4 v5 v6 v7 v8 v9 v10 v11 w) : NSt w0 b0 b1 b2 b3 b4 b5 true true b8 b9 b10 v0 v3 v4 v5 v6 v7 v8 v7 v10 v11 w :=
  { h with c7 := fun _ => ⟨rfl, rfl⟩, c8 := fun hb => (by cases (h.c8 hb).2.2.2.1), c9 := fun hb => by cases (h.c8 (h.c9 hb).1).2.2.2.1 }
theorem NSt.s8 (h : NSt w0 true true b2 true b4 b5 b6 true false b9 b10 v0 v3 v4 v5 v6 v7 v8 v9 v10 v11 w) : NSt w0 true true b2 true b4 b5 b6 true true b9 b10 v0 v3 v4 v5 v6 v7 v8 v9 (.agg #[.slice none 0 0, v3, v4, v6, v9]) v11 w :=
  { h with c8 := fun _ => ⟨rfl, rfl, rfl, rfl, rfl⟩, c9 := fun hb => by cases (h.c9 hb).1 }
theorem NSt.s9 (h : NSt w0 b0 b1 b2 b3 b4 b5 b6 b7 true false b10 v0 v3 v4 v5 v6 v7 v8 v9 v10 v11 w) : NSt w0 b0 b1 b2 b3 b4 b5 b6 b7 true true b10 v0 v3 v4 v5 v6 v7 v8 v9 v10 (.pointer (some ⟨w.heap.size, 0, none⟩)) (w.alloc (.cells #[.slice none 0 0, v3, v4, v6, v9] 56)) :=
  { h.alloc _ with c9 := fun _ => ⟨rfl, _, rfl, h.below.size, Blk.new _ _ _⟩, c10 := fun hb => by cases (h.c10 hb).1 }
theorem NSt.s10 (h : NSt w0 b0 b1 b2 b3 b4 b5 b6 b7 b8 true b10 v0 v3 v4 v5 v6 v7 v8 v9 v10 v11 w) : NSt w0 b0 b1 b2 b3 b4 b5 b6 b7 b8 true true v11 v3 v4 v5 v6 v7 v8 v9 v10 v11 w :=
  { h with c10 := fun _ => ⟨rfl, rfl⟩ }
end
theorem g_set {l : Array Bool} {i j : Nat} (h : i < l.size) : gB (l.setIfInBounds i true) j = if i = j then true else gB l j := by
  unfold gB
  by_cases e : i = j
  · subst e; simp [h]
  · simp [Array.getD_eq_getD_getElem?, Array.getElem?_setIfInBounds, e]
theorem g_no {l : Array Bool} {i : Nat} (h : l.getD i true = false) : gB l i = false := by
  unfold gB
  simp only [Array.getD_eq_getD_getElem?] at *
  cases hx : l[i]? with
  | none => rfl
  | some b => rw [hx] at h; simpa using h
def actN (r : Nat) (v0 v3 v4 v5 v6 v7 v8 v9 v10 v11 : Value) : Act := { tmps := #[v0, .pointer (some ⟨r, 0, none⟩), .agg #[.int .i64 0, .string ⟨#[]⟩], v3, v4, v5, v6, v7, v8, v9, v10, v11], defers := [] }
def NInv (w0 : World) (r : Nat) (l : Array Bool) (a : Act) (w : World) : Prop :=
  ∃ v0 v3 v4 v5 v6 v7 v8 v9 v10 v11 : Value, a = actN r v0 v3 v4 v5 v6 v7 v8 v9 v10 v11 ∧ NSt w0 (gB l 0) (gB l 1) (gB l 2) (gB l 3) (gB l 4) (gB l 5) (gB l 6) (gB l 7) (gB l 8) (gB l 9) (gB l 10) v0 v3 v4 v5 v6 v7 v8 v9 v10 v11 w

def S0 : VSt := ⟨[], fun _ => none, fun _ => none, fun _ _ => none⟩
def NewPost (w : World) (e : Ending) (w' : World) : Prop :=
  ∃ b mk mv vd mp, e = .returned (.pointer (some ⟨b, 0, none⟩)) ∧ Below w.heap.size w w' ∧ Blk w' b 56 #[.slice none 0 0, .map (some mk), .map (some mv), vd, .map (some mp)] ∧
    DirP w' vd mp [rootD] ∧ ValP w' (.slice none 0 0) mk mv S0 0 ∧ w.heap.size ≤ b ∧ w.heap.size ≤ mk ∧ w.heap.size ≤ mv ∧ w.heap.size ≤ mp ∧ (∀ k, vd.ownBlock = some k → w.heap.size ≤ k) ∧ mp ≠ mk ∧ mp ≠ mv
theorem root_ok : DirsOk [rootD] := ⟨by decide, rfl, by simp, fun d hd => by simp at hd; subst hd; decide, fun k d hk h0 => by
  have := (List.getElem?_eq_some_iff.1 hk).1
  simp at this; omega⟩
theorem new_fin {w w0 w' : World} (hb0 : Below w.heap.size w w0) {v0 v3 v4 v5 v6 v7 v8 v9 v10 v11 : Value} (h : NSt w0 true true true true true true true true true true true v0 v3 v4 v5 v6 v7 v8 v9 v10 v11 w') : NewPost w (.returned v0) w' := by
  obtain ⟨mk, rfl, k1, k2⟩ := h.c0 rfl
  obtain ⟨mv, rfl, m1, m2⟩ := h.c1 rfl
  obtain ⟨-, rb, rfl, r1, r2⟩ := h.c3 rfl
  obtain ⟨-, -, mp, rfl, p1, D, p2, p3⟩ := h.c6 rfl
  obtain ⟨-, rfl⟩ := h.c7 rfl
  obtain ⟨-, bs, rfl, s1, s2⟩ := h.c9 rfl
  obtain ⟨-, rfl⟩ := h.c10 rfl
  have hz := hb0.size
  have d01 := h.d01 rfl rfl
  have d04 := h.d04 rfl rfl
  have d14 := h.d14 rfl rfl
  refine ⟨bs, mk, mv, _, mp, rfl, hb0.trans (h.below.mono hz), s2, ⟨root_ok, ⟨rfl, .inr ⟨rb, 1, _, rfl, Nat.zero_le _, r2, Nat.le_refl _, by simp [maxLen], rfl, rfl⟩⟩, D, p2, p3⟩, ?_, by omega, by omega, by omega, by omega, ?_, ?_, ?_⟩
  · refine ⟨⟨by decide, by simp [S0], fun k hk => by simp [S0] at hk, fun k => by simp [S0], fun k => by simp [S0], fun k k' b hb => by simp [S0] at hb, fun k id _ => rfl⟩, World.ownsRow_nil _ _ _ _, ⟨.map [], owns_empty k2, ?_⟩, ⟨.map [], owns_empty m2, ?_⟩, fun k b hb => by simp [S0] at hb, fun e => d01 (by rw [e]), fun k b hb => by simp [S0] at hb, fun k id r hr => by simp [S0] at hr, fun k id r b hr => by simp [S0] at hr⟩
    · exact (Agrees.none_ kdS (fun _ => True)).congr fun a => rfl
    · exact (Agr.none_ kdS (fun _ => True) enM).congr fun a => rfl
  · intro k hk
    simp [Value.ownBlock] at hk
    omega
  · intro e; exact d04 (by rw [e])
  · intro e; exact d14 (by rw [e])

set_option maxHeartbeats 1000000 in
set_option maxRecDepth 100000 in
theorem new_any (w : World) : Calls Tryd.prog 11 #[] w (NewPost w) := by
  go_enter Tryd.func11, Tryd.ntmps11
  go_upto_region 2 with fail
  rename_i K hK
  have HB : Hid (Below w.heap.size w (w.alloc (.cells #[.int .i64 0, .string ⟨#[]⟩] 50))) := (Below.refl _ _).alloc (Nat.le_refl _) _
  have HR : Hid (Blk (w.alloc (.cells #[.int .i64 0, .string ⟨#[]⟩] 50)) w.heap.size 50 #[.int .i64 0, .string ⟨#[]⟩]) := Blk.new _ _ _
  generalize w.alloc (.cells #[.int .i64 0, .string ⟨#[]⟩] 50) = w0 at *
  generalize hr0 : w.heap.size = r at *
  have HR0 := Lib.hid hr0
  clear hr0
  refine wp_region_inv (NInv w0 r) (by kernel_rfl) ?start (fun l a w' hl hr h => ?fin) (fun l a w' hl h i hi => ?step)
  case start =>
    refine ⟨_, _, _, _, _, _, _, _, _, _, rfl, ?_⟩
    have e : ∀ n i, gB (Array.replicate n false) i = false := fun n i => by
      unfold gB
      simp only [Array.getD_eq_getD_getElem?, Array.getElem?_replicate]
      split <;> rfl
    simp only [e]
    constructor
    · exact (Below.refl _ _).drew
    all_goals (intro h; cases h)
  case fin =>
    obtain ⟨v0, v3, v4, v5, v6, v7, v8, v9, v10, v11, rfl, hS⟩ := h
    have f0 : gB l 0 = true := unready hl hr rfl (by simp)
    have f1 : gB l 1 = true := unready hl hr rfl (by simp)
    have f2 : gB l 2 = true := unready hl hr rfl (by simp)
    have f3 : gB l 3 = true := unready hl hr rfl (by simp [f2])
    have f4 : gB l 4 = true := unready hl hr rfl (by simp)
    have f5 : gB l 5 = true := unready hl hr rfl (by simp)
    have f6 : gB l 6 = true := unready hl hr rfl (by simp [f4, f5])
    have f7 : gB l 7 = true := unready hl hr rfl (by simp [f4, f5, f6])
    have f8 : gB l 8 = true := unready hl hr rfl (by simp [f0, f1, f3, f7])
    have f9 : gB l 9 = true := unready hl hr rfl (by simp [f8])
    have f10 : gB l 10 = true := unready hl hr rfl (by simp [f0, f1, f2, f3, f4, f5, f6, f7, f8, f9])
    rw [f0, f1, f2, f3, f4, f5, f6, f7, f8, f9, f10] at hS
    have HS := Lib.hid hS
    clear hS hl hr f0 f1 f2 f3 f4 f5 f6 f7 f8 f9 f10
    refine hK _ _ ?_
    unfold actN
    go_wp2_with fail
    go_ret
    exact new_fin (by rw [HR0.out]; exact HB.out) HS.out
  case step =>
    obtain ⟨v0, v3, v4, v5, v6, v7, v8, v9, v10, v11, rfl, hS⟩ := h
    obtain ⟨h1, h2, h3⟩ := ready_in hi
    have hl' : l.size = 11 := hl
    have hi' : i < 11 := h1
    clear hi h1 hl
    obtain rfl | rfl | rfl | rfl | rfl | rfl | rfl | rfl | rfl | rfl | rfl : i = 0 ∨ i = 1 ∨ i = 2 ∨ i = 3 ∨ i = 4 ∨ i = 5 ∨ i = 6 ∨ i = 7 ∨ i = 8 ∨ i = 9 ∨ i = 10 := by omega
    · have u : gB l 0 = false := g_no h2
      rw [u] at hS
      refine wpOp_step rfl (fun K' hK' => ?_)
      unfold actN
      go_simp
      refine hK' _ _ ⟨_, _, _, _, _, _, _, _, _, _, rfl, ?_⟩
      simp only [g_set (i := 0) (l := l) (by omega : 0 < l.size), reduceIte, Nat.reduceEqDiff]
      exact hS.s0
    · have u : gB l 1 = false := g_no h2
      rw [u] at hS
      refine wpOp_step rfl (fun K' hK' => ?_)
      unfold actN
      go_simp
      refine hK' _ _ ⟨_, _, _, _, _, _, _, _, _, _, rfl, ?_⟩
      simp only [g_set (i := 1) (l := l) (by omega : 1 < l.size), reduceIte, Nat.reduceEqDiff]
      exact hS.s1
    · have u : gB l 2 = false := g_no h2
      rw [u] at hS
      have c0 : w'.cell? ⟨r, 0, none⟩ = some (.int .i64 0) := (HR.out.below hS.below HR.out.lt).cell 0
      have c1 : w'.cell? ⟨r, 1, none⟩ = some (.string ⟨#[]⟩) := (HR.out.below hS.below HR.out.lt).cell 1
      refine wpOp_step rfl (fun K' hK' => ?_)
      unfold actN
      go_simp
      refine hK' _ _ ⟨_, _, _, _, _, _, _, _, _, _, rfl, ?_⟩
      simp only [g_set (i := 2) (l := l) (by omega : 2 < l.size), reduceIte, Nat.reduceEqDiff]
      exact hS.s2
    · have u : gB l 3 = false := g_no h2
      have f2 : gB l 2 = true := h3 _ rfl ⟨2, .data⟩ (by simp) rfl
      rw [u, f2] at hS
      obtain rfl : v5 = zD := hS.c2 rfl
      unfold zD
      refine wpOp_step rfl (fun K' hK' => ?_)
      unfold actN
      go_simp
      refine hK' _ _ ⟨_, _, _, _, _, _, _, _, _, _, rfl, ?_⟩
      simp only [g_set (i := 3) (l := l) (by omega : 3 < l.size), reduceIte, Nat.reduceEqDiff, f2]
      exact hS.s3
    · have u : gB l 4 = false := g_no h2
      rw [u] at hS
      refine wpOp_step rfl (fun K' hK' => ?_)
      unfold actN
      go_simp
      refine hK' _ _ ⟨_, _, _, _, _, _, _, _, _, _, rfl, ?_⟩
      simp only [g_set (i := 4) (l := l) (by omega : 4 < l.size), reduceIte, Nat.reduceEqDiff]
      exact hS.s4
    · have u : gB l 5 = false := g_no h2
      rw [u] at hS
      have c0 : w'.cell? ⟨r, 0, none⟩ = some (.int .i64 0) := (HR.out.below hS.below HR.out.lt).cell 0
      have c1 : w'.cell? ⟨r, 1, none⟩ = some (.string ⟨#[]⟩) := (HR.out.below hS.below HR.out.lt).cell 1
      refine wpOp_step rfl (fun K' hK' => ?_)
      unfold actN
      go_simp
      refine hK' _ _ ⟨_, _, _, _, _, _, _, _, _, _, rfl, ?_⟩
      simp only [g_set (i := 5) (l := l) (by omega : 5 < l.size), reduceIte, Nat.reduceEqDiff]
      exact hS.s5
    · have u : gB l 6 = false := g_no h2
      have f4 : gB l 4 = true := h3 _ rfl ⟨4, .data⟩ (by simp) rfl
      have f5 : gB l 5 = true := h3 _ rfl ⟨5, .data⟩ (by simp) rfl
      rw [u, f4, f5] at hS
      obtain ⟨mb, hmb, hm1, hm2⟩ := hS.c4 rfl rfl
      have h8 := hS.c5 rfl
      refine wpOp_step rfl (fun K' hK' => ?_)
      refine step_insert_own rfl (.tmp 7) (.tmp 8) (.const (.int .i64 0)) 54 rfl 50 3 lawD Tryd.underlying54 (plainElem (H := Unit) Tryd.prog 3) mb 0 (.map []) hmb (owns_empty hm2) (by decide) _ _ (kdD rootD) h8 rfl (keyD rootD ⟨by decide, by decide⟩) _ [] (plainElem_int (a := 0) Tryd.underlying3 (by decide)) ?_
      intro w1 hown1 hg1
      refine hK' _ _ ⟨_, _, _, _, _, _, _, _, _, _, rfl, ?_⟩
      simp only [g_set (i := 6) (l := l) (by omega : 6 < l.size), reduceIte, Nat.reduceEqDiff, f4, f5]
      refine hS.s6 hmb hown1 (((Agrees.none_ kdD okD).put kdD_inj rootD ⟨by decide, by decide⟩ (kdD_key _) 0).congr ?_) hg1
      intro a
      by_cases ha : a = rootD
      · subst ha; simp [ixI, ix]
      · have ha' : ¬ rootD = a := fun e => ha e.symm
        simp [ixI, ix, ha, ha']
    · have u : gB l 7 = false := g_no h2
      have f6 : gB l 6 = true := h3 _ rfl ⟨6, .data⟩ (by simp) rfl
      rw [u, f6] at hS
      refine wpOp_step rfl (fun K' hK' => ?_)
      unfold actN
      go_simp
      refine hK' _ _ ⟨_, _, _, _, _, _, _, _, _, _, rfl, ?_⟩
      simp only [g_set (i := 7) (l := l) (by omega : 7 < l.size), reduceIte, Nat.reduceEqDiff, f6]
      exact hS.s7
    · have u : gB l 8 = false := g_no h2
      have f0 : gB l 0 = true := h3 _ rfl ⟨0, .data⟩ (by simp) rfl
      have f1 : gB l 1 = true := h3 _ rfl ⟨1, .data⟩ (by simp) rfl
      have f3 : gB l 3 = true := h3 _ rfl ⟨3, .data⟩ (by simp) rfl
      have f7 : gB l 7 = true := h3 _ rfl ⟨7, .data⟩ (by simp) rfl
      rw [u, f0, f1, f3, f7] at hS
      obtain ⟨x3, rfl, -, -⟩ := hS.c0 rfl
      obtain ⟨x4, rfl, -, -⟩ := hS.c1 rfl
      obtain ⟨-, x6, rfl, -, -⟩ := hS.c3 rfl
      obtain ⟨h67, h97⟩ := hS.c7 rfl
      obtain ⟨-, -, x9, h79, -⟩ := hS.c6 h67
      rw [h79] at h97
      subst h97
      subst h79
      refine wpOp_step rfl (fun K' hK' => ?_)
      unfold actN
      go_simp
      refine hK' _ _ ⟨_, _, _, _, _, _, _, _, _, _, rfl, ?_⟩
      simp only [g_set (i := 8) (l := l) (by omega : 8 < l.size), reduceIte, Nat.reduceEqDiff, f0, f1, f3, f7]
      exact hS.s8
    · have u : gB l 9 = false := g_no h2
      have f8 : gB l 8 = true := h3 _ rfl ⟨8, .data⟩ (by simp) rfl
      rw [u, f8] at hS
      obtain ⟨g0, g1, g3, g7, hv10⟩ := hS.c8 rfl
      obtain ⟨x3, rfl, -, -⟩ := hS.c0 g0
      obtain ⟨x4, rfl, -, -⟩ := hS.c1 g1
      obtain ⟨-, x6, rfl, -, -⟩ := hS.c3 g3
      obtain ⟨h67, h97⟩ := hS.c7 g7
      obtain ⟨-, -, x9, h79, -⟩ := hS.c6 h67
      rw [h79] at h97
      subst h97
      subst h79
      subst hv10
      refine wpOp_step rfl (fun K' hK' => ?_)
      unfold actN
      go_simp
      refine hK' _ _ ⟨_, _, _, _, _, _, _, _, _, _, rfl, ?_⟩
      simp only [g_set (i := 9) (l := l) (by omega : 9 < l.size), reduceIte, Nat.reduceEqDiff, f8]
      exact hS.s9
    · have u : gB l 10 = false := g_no h2
      have f9 : gB l 9 = true := h3 _ rfl ⟨9, .data⟩ (by simp) rfl
      rw [u, f9] at hS
      refine wpOp_step rfl (fun K' hK' => ?_)
      unfold actN
      go_simp
      refine hK' _ _ ⟨_, _, _, _, _, _, _, _, _, _, rfl, ?_⟩
      simp only [g_set (i := 10) (l := l) (by omega : 10 < l.size), reduceIte, Nat.reduceEqDiff, f9]
      exact hS.s10
end Go.Proofs.YthgagobdkcikiaaDoor
