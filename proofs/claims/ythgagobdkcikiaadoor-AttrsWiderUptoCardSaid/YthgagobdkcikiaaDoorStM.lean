/- A store in memory: values by keys and packages, directories by numbers. -/
import Derived.Test.YthgagobdkcikiaaDoorAgr
import Derived.Test.YthgagobdkcikiaaDoorUp
import Derived.DeepKeys4
import Derived.WideKeyArgs2
namespace Go.Proofs.YthgagobdkcikiaaDoor
set_option linter.unusedSimpArgs false
set_option linter.unusedVariables false
open Go.RowKit
open Go.Maps (Keyed string_keyed int_keyed)

theorem lawS : Keyed Tryd.prog 9 := string_keyed Tryd.underlying9
theorem lawI : Keyed Tryd.prog 3 := int_keyed Tryd.underlying3
theorem laidOut : laidOutB Tryd.prog = true := by kernel_rfl
theorem lawD : Keyed Tryd.prog 50 :=
  Keyed.of_law (deep_law_laid laidOut (m := 2) (by omega) (of_decide_eq_true (by kernel_rfl)) (by kernel_rfl) (by kernel_rfl))
theorem zeroI (w : World) : (zeroValue 3).run Tryd.prog w = .ok (.int .i64 0) w := by kernel_rfl
theorem zeroM (w : World) : (zeroValue 63).run Tryd.prog w = .ok (.map none) w := by kernel_rfl
theorem zeroV (w : World) : (zeroValue 37).run Tryd.prog w = .ok (.agg #[.int .i64 0, .int .i64 0, .string ⟨#[]⟩, .slice none 0 0]) w := by kernel_rfl
theorem infoS : (Tryd.prog.info? 9).map (fun i => (i.zero, i.size, i.bytes)) = some (some (.string ByteArray.empty), 1, 16) := by kernel_rfl
theorem infoD : (Tryd.prog.info? 50).map (fun i => (i.zero, i.size, i.bytes)) = some (some (.agg #[.int .i64 0, .string ByteArray.empty]), 2, 24) := by kernel_rfl
theorem infoI : (Tryd.prog.info? 3).map (fun i => (i.zero, i.size, i.bytes)) = some (some (.int .i64 0), 1, 8) := by kernel_rfl
theorem wfN {n : Nat} (h : n < 2 ^ 63) : (Lit.int .i64 (n : Int)).wf = true := by
  simp [Lit.wf, IntKind.min, IntKind.max, IntKind.signed, IntKind.bits]; omega

/-! Directories. -/
/-- A directory: the number of the one that it is in, its last part. -/
abbrev DirE := Nat × ByteArray
def kdD (d : DirE) : Lit := .string (keyBytes [.int .i64 d.1, .string d.2.data.toList])
def okD (d : DirE) : Prop := d.1 < 2 ^ 63 ∧ d.2.size ≤ maxLen
def valD (d : DirE) : Value := .agg #[.int .i64 d.1, .string d.2]
def cells2 (r : List DirE) : List Value := r.flatMap fun d => [.int .i64 d.1, .string d.2]
theorem keyD (d : DirE) (h : okD d) : keyOf Tryd.prog 50 (valD d) = some (kdD d) := by
  obtain ⟨a, b⟩ := d
  obtain ⟨h1, h2⟩ := h
  simp only at h1 h2
  have hk : Tryd.prog.keyType 50 = true := by kernel_rfl
  obtain ⟨m, hs⟩ : ∃ m, Tryd.prog.types.size = m + 1 := ⟨Tryd.prog.types.size - 1, by kernel_rfl⟩
  have hc : Tryd.prog.cellsOf 50 = 2 := by kernel_rfl
  have hi : Tryd.prog.cellsOf 3 = 1 := by kernel_rfl
  have hi2 : Tryd.prog.cellsOf 9 = 1 := by kernel_rfl
  unfold keyOf
  simp only [Tryd.underlying50]
  rw [if_pos (by simp [hk, Value.formed, Tryd.underlying50, hc, valD]), hs]
  unfold Program.keyLits
  simp only [Tryd.underlying50, valD, Value.cells]
  rw [if_pos (by rw [hc]; simp)]
  simp [hi, hi2, Program.keyLits, Tryd.underlying3, Tryd.underlying9, wfN h1, h2, kdD]
theorem kdD_inj (a b : DirE) (ha : okD a) (hb : okD b) (h : kdD a = kdD b) : a = b := by
  have h1 := lawD.inj (keyD a ha) (h ▸ keyD b hb)
  obtain ⟨a1, a2⟩ := a
  obtain ⟨b1, b2⟩ := b
  simp [valD] at h1
  simp only [Prod.mk.injEq]
  exact ⟨by omega, h1.2⟩
theorem kdD_key (d : DirE) : WideAt.IsKeyLit (kdD d) := trivial

structure DirsOk (ds : List DirE) : Prop where
  few : ds.length ≤ 2000
  root : ds[0]? = some (0, ⟨#[]⟩)
  once : ds.Nodup
  short : ∀ d ∈ ds, d.2.size ≤ 200
  up : ∀ (k : Nat) d, ds[k]? = some d → 0 < k → d.1 < k
/-- Directories in memory: their row, the map of their numbers. -/
structure DirP (w : World) (vd : Value) (mp : Nat) (ds : List DirE) : Prop where
  ok : DirsOk ds
  row : w.ownsRow 0 50 2 vd ds.length (cells2 ds)
  map : ∃ D, w.ownsMap Tryd.prog 50 (plainElem Tryd.prog 3) mp ds.length D ∧ Agrees kdD okD D (ixI ds)

/-! Values. -/
/-- A value in memory: kind, number, text, the block of its list's row, the list's length. -/
structure Raw where
  k : Int
  n : Int
  s : ByteArray
  a : Option Nat
  m : Nat
def listV (a : Option Nat) (m : Nat) : Value := match a with | none => .slice none 0 0 | some b => .slice (some ⟨b, 0, none⟩) m m
/-- A nil list is of no length. -/
def valR (r : Raw) : Value := .agg #[.int .i64 r.k, .int .i64 r.n, .string r.s, listV r.a r.m]
def enR (r : Raw) : DataW Unit := .agg [.lit (.int .i64 r.k), .lit (.int .i64 r.n), .lit (.string r.s.data.toList), match r.a with | none => .nil | some b => .agg [.lit (.int .i64 b), .lit (.int .i64 r.m)]]
/-- Values whose nil lists are of length 0. -/
abbrev RawN := {r : Raw // r.a = none → r.m = 0}
def valRN (r : RawN) : Value := valR r.1
def enRN (r : RawN) : DataW Unit := enR r.1
theorem raw_ext {a b : RawN} (h1 : a.1.k = b.1.k) (h2 : a.1.n = b.1.n) (h3 : a.1.s = b.1.s) (h4 : a.1.a = b.1.a) (h5 : a.1.a.isSome → a.1.m = b.1.m) : a = b := by
  obtain ⟨⟨k, n, s, x, m⟩, ha⟩ := a
  obtain ⟨⟨k', n', s', x', m'⟩, hb⟩ := b
  simp only at *
  subst h1; subst h2; subst h3; subst h4
  have : m = m' := by
    cases x with
    | none => exact (ha rfl).trans (hb rfl).symm
    | some b => exact h5 rfl
  subst this; rfl
theorem valRN_inj (a b : RawN) (h : valRN a = valRN b) : a = b := by
  unfold valRN valR at h
  simp only [Value.agg.injEq, Array.mk.injEq, List.cons.injEq, Value.int.injEq, Value.string.injEq, true_and, and_true] at h
  obtain ⟨h1, h2, h3, h4⟩ := h
  have h4' : a.1.a = b.1.a ∧ (a.1.a.isSome → a.1.m = b.1.m) := by
    unfold listV at h4
    cases ha : a.1.a <;> cases hb : b.1.a <;> rw [ha, hb] at h4 <;> simp at h4 ⊢
    exact h4
  exact raw_ext h1 h2 h3 h4'.1 h4'.2
theorem enRN_inj (a b : RawN) (h : enRN a = enRN b) : a = b := by
  unfold enRN enR at h
  simp only [DataW.agg.injEq, List.cons.injEq, DataW.lit.injEq, Lit.int.injEq, Lit.string.injEq, true_and, and_true] at h
  obtain ⟨h1, h2, h3, h4⟩ := h
  have h4' : a.1.a = b.1.a ∧ (a.1.a.isSome → a.1.m = b.1.m) := by
    cases ha : a.1.a <;> cases hb : b.1.a <;> rw [ha, hb] at h4 <;> simp at h4 ⊢
    omega
  exact raw_ext h1 h2 (kdS_inj _ _ (by rw [kdS, kdS, h3])) h4'.1 h4'.2
noncomputable def rdR : Value → Option (DataW Unit × List MemPlace) := rdBy valRN enRN

/-- A map of maps: which block. -/
def valM (b : Option Nat) : Value := .map b
def enM (b : Option Nat) : DataW Unit := match b with | none => .nil | some b => .lit (.int .i64 b)
theorem valM_inj (a b : Option Nat) (h : valM a = valM b) : a = b := by unfold valM at h; injection h
theorem enM_inj (a b : Option Nat) (h : enM a = enM b) : a = b := by
  unfold enM at h
  cases a <;> cases b <;> simp at h ⊢
  omega
noncomputable def rdM : Value → Option (DataW Unit × List MemPlace) := rdBy valM enM

def kdI (n : Int) : Lit := .int .i64 n
def okI (n : Int) : Prop := (Lit.int .i64 n).wf = true
theorem kdI_inj (a b : Int) (_ : okI a) (_ : okI b) (h : kdI a = kdI b) : a = b := by unfold kdI at h; injection h
theorem kdI_key (n : Int) : WideAt.IsKeyLit (kdI n) := trivial

/-- What a store says of values: keys in their order, kinds, blocks of the keys' maps, the values. -/
structure VSt where
  keys : List ByteArray
  kind : ByteArray → Option Int
  inner : ByteArray → Option Nat
  raw : ByteArray → Int → Option RawN
/-- What a list in a value is. -/
def RowAt (w : World) (r : Raw) (l : List ByteArray) : Prop := match r.a with
  | none => l = []
  | some b => r.m = l.length ∧ Blk w b 9 (l.map Value.string).toArray
def vfoot (S : VSt) (vk : Value) (mk mv : Nat) : List Nat := mk :: mv :: (vk.ownBlock.toList ++ S.keys.filterMap S.inner)
structure VOk (S : VSt) : Prop where
  few : S.keys.length ≤ 64
  once : S.keys.Nodup
  short : ∀ k ∈ S.keys, k.size ≤ 60
  kinds : ∀ k, (S.kind k).isSome = true ↔ k ∈ S.keys
  inners : ∀ k, (S.inner k).isSome = true ↔ k ∈ S.keys
  apart : ∀ k k' b, S.inner k = some b → S.inner k' = some b → k = k'
  none_ : ∀ k id, S.inner k = none → S.raw k id = none
def valB (k n : Int) (s : ByteArray) (l : Nat) : Bool :=
  if k = 1 then decide (s = ⟨#[]⟩) && decide (l = 0) else if k = 2 then decide (n = 0) && decide (l = 0) else if k = 3 then decide (n = 0) && decide (s = ⟨#[]⟩) else false
/-- What is true of all values that are kept: l is the list. -/
def RawOk (r : RawN) (l : List ByteArray) : Prop := r.1.s.size ≤ 200 ∧ l.length ≤ 200 ∧ (∀ t, t ∈ l → t.size ≤ 200) ∧ okI r.1.n ∧ valB r.1.k r.1.n r.1.s l.length = true
/-- Values in memory. N: a bound of how often a value was set. -/
structure ValP (w : World) (vk : Value) (mk mv : Nat) (S : VSt) (N : Nat) : Prop where
  ok : VOk S
  row : w.ownsRow 0 9 1 vk S.keys.length (S.keys.map .string)
  kinds : ∃ D, w.ownsMap Tryd.prog 9 (plainElem Tryd.prog 3) mk S.keys.length D ∧ Agrees kdS (fun _ => True) D S.kind
  vals : ∃ D, w.ownsMap Tryd.prog 9 rdM mv S.keys.length D ∧ Agr kdS (fun _ => True) enM D (fun k => (S.inner k).map some)
  inn : ∀ k b, S.inner k = some b → ∃ D, w.ownsMap Tryd.prog 3 rdR b N D ∧ Agr kdI okI enRN D (S.raw k)
  two : mk ≠ mv
  far : ∀ k b, S.inner k = some b → b ≠ mk ∧ b ≠ mv
  lists : ∀ k id r, S.raw k id = some r → ∃ l, RowAt w r.1 l ∧ RawOk r l
  listsFar : ∀ k id r b, S.raw k id = some r → r.1.a = some b → b < w.heap.size ∧ vk.ownBlock ≠ some b
end Go.Proofs.YthgagobdkcikiaaDoor
