/- A table of names in memory, as the two lists that it stands for. -/
import Derived.Test.YtdgmpickjdbhlaaDoorMem
import Derived.DeepKeys4
import Derived.WideKeyArgs2
namespace Go.Proofs.YtdgmpickjdbhlaaDoor
open Go.RowKit
open Go.Maps (Keyed string_keyed)

theorem lawS : Keyed Tryd.prog 9 := string_keyed Tryd.underlying9
theorem laidOut : laidOutB Tryd.prog = true := by kernel_rfl
theorem lawC : Keyed Tryd.prog 41 :=
  Keyed.of_law (deep_law_laid laidOut (m := 2) (by omega) (of_decide_eq_true (by kernel_rfl)) (by kernel_rfl) (by kernel_rfl))
theorem zeroI (w : World) : (zeroValue 3).run Tryd.prog w = .ok (.int .i64 0) w := by kernel_rfl
theorem infoS : (Tryd.prog.info? 9).map (fun i => (i.zero, i.size, i.bytes)) = some (some (.string ByteArray.empty), 1, 16) := by kernel_rfl
theorem infoC : (Tryd.prog.info? 41).map (fun i => (i.zero, i.size, i.bytes)) = some (some (.agg #[.int .i64 0, .int .i64 0, .int .i64 0]), 3, 24) := by kernel_rfl
theorem infoI : (Tryd.prog.info? 3).map (fun i => (i.zero, i.size, i.bytes)) = some (some (.int .i64 0), 1, 8) := by kernel_rfl

/-- A comparison: a name's number, an op, a version's number. -/
abbrev Cmp := Nat × Nat × Nat
def kdC (c : Cmp) : Lit := .string (keyBytes [.int .i64 c.1, .int .i64 c.2.1, .int .i64 c.2.2])
def okC (c : Cmp) : Prop := c.1 < 2 ^ 63 ∧ c.2.1 < 2 ^ 63 ∧ c.2.2 < 2 ^ 63
def valC (c : Cmp) : Value := .agg #[.int .i64 c.1, .int .i64 c.2.1, .int .i64 c.2.2]
def cells3 (r : List Cmp) : List Value := r.flatMap fun c => [.int .i64 c.1, .int .i64 c.2.1, .int .i64 c.2.2]
theorem wfN {n : Nat} (h : n < 2 ^ 63) : (Lit.int .i64 (n : Int)).wf = true := by
  simp [Lit.wf, IntKind.min, IntKind.max, IntKind.signed, IntKind.bits]; omega
theorem keyC (c : Cmp) (h : okC c) : keyOf Tryd.prog 41 (valC c) = some (kdC c) := by
  obtain ⟨a, b, d⟩ := c
  obtain ⟨h1, h2, h3⟩ := h
  have hk : Tryd.prog.keyType 41 = true := by kernel_rfl
  obtain ⟨m, hs⟩ : ∃ m, Tryd.prog.types.size = m + 1 := ⟨Tryd.prog.types.size - 1, by kernel_rfl⟩
  have hc : Tryd.prog.cellsOf 41 = 3 := by kernel_rfl
  have hi : Tryd.prog.cellsOf 3 = 1 := by kernel_rfl
  unfold keyOf
  simp only [Tryd.underlying41]
  rw [if_pos (by simp [hk, Value.formed, Tryd.underlying41, hc, valC]), hs]
  unfold Program.keyLits
  simp only [Tryd.underlying41, valC, Value.cells]
  rw [if_pos (by rw [hc]; simp)]
  simp [hi, Program.keyLits, Tryd.underlying3, wfN h1, wfN h2, wfN h3, kdC]
theorem kdC_inj (a b : Cmp) (ha : okC a) (hb : okC b) (h : kdC a = kdC b) : a = b := by
  have h1 := lawC.inj (keyC a ha) (h ▸ keyC b hb)
  obtain ⟨a1, a2, a3⟩ := a
  obtain ⟨b1, b2, b3⟩ := b
  simp [valC] at h1
  simp only [Prod.mk.injEq]
  omega

/-- The parts of a table in memory. -/
structure TabOf (w : World) (bt : Nat) (vn : Value) (mi : Nat) (vc : Value) (mp : Nat) (D E : DataW Unit) (l : List ByteArray) (r : List Cmp) : Prop where
  blk : Blk w bt 36 #[vn, .map (some mi), vc, .map (some mp)]
  names : w.ownsRow 0 9 1 vn l.length (l.map .string)
  comps : w.ownsRow 0 41 3 vc r.length (cells3 r)
  ids : w.ownsMap Tryd.prog 9 (plainElem Tryd.prog 3) mi l.length D
  idsAre : Agrees kdS (fun _ => True) D (ixI l)
  places : w.ownsMap Tryd.prog 41 (plainElem Tryd.prog 3) mp r.length E
  placesAre : Agrees kdC okC E (ixI r)
  maps : mi ≠ mp
def foot (bt mi mp : Nat) (vn vc : Value) : List Nat := bt :: mi :: mp :: (vn.ownBlock.toList ++ vc.ownBlock.toList)

/-- What is true of all tables' lists. -/
structure Good (l : List ByteArray) (r : List Cmp) : Prop where
  few : l.length ≤ 5000
  one : l[0]? = some ⟨#[]⟩
  once : l.Nodup
  short : ∀ s ∈ l, s.size ≤ 60
  rfew : r.length ≤ 5000
  ronce : r.Nodup
  inside : ∀ c ∈ r, c.1 < l.length ∧ c.2.2 < l.length ∧ 1 ≤ c.2.1 ∧ c.2.1 ≤ 7

def Tab (w : World) (F : List Nat) (bt : Nat) (l : List ByteArray) (r : List Cmp) : Prop :=
  Good l r ∧ ∃ vn mi vc mp D E, TabOf w bt vn mi vc mp D E l r ∧ F = foot bt mi mp vn vc

theorem Tab.turned {w w' : World} {F G : List Nat} {bt : Nat} {l : List ByteArray} {r : List Cmp} (h : Tab w F bt l r) (ht : Turned G w w') (ha : Apart F G) : Tab w' F bt l r := by
  obtain ⟨hg, vn, mi, vc, mp, D, E, hT, rfl⟩ := h
  refine ⟨hg, vn, mi, vc, mp, D, E, ⟨hT.blk.turned ht (ha _ (by simp [foot])), own_turned hT.names ht fun k hk => ha k (by simp [foot, hk]), own_turned hT.comps ht fun k hk => ha k (by simp [foot, hk]),
    map_turned hT.ids ht (ha _ (by simp [foot])), hT.idsAre, map_turned hT.places ht (ha _ (by simp [foot])), hT.placesAre, hT.maps⟩, rfl⟩
theorem Tab.lt {w : World} {F : List Nat} {bt : Nat} {l : List ByteArray} {r : List Cmp} (h : Tab w F bt l r) : ∀ k, k ∈ F → k < w.heap.size := by
  obtain ⟨hg, vn, mi, vc, mp, D, E, hT, rfl⟩ := h
  intro k hk
  simp only [foot, List.mem_cons, List.mem_append, Option.mem_toList] at hk
  rcases hk with rfl | rfl | rfl | hk | hk
  · exact hT.blk.lt
  · exact hT.ids.lt
  · exact hT.places.lt
  · exact own_lt hT.names hk
  · exact own_lt hT.comps hk

/-- What a name's adding answers, and the names behind it. -/
def addId (l : List ByteArray) (s : ByteArray) : Int := if 60 < s.size then 0 else match ix l s with | some k => k | none => if 5000 ≤ l.length then 0 else l.length
def addErr (l : List ByteArray) (s : ByteArray) : Int := if 60 < s.size then 21 else match ix l s with | some _ => 0 | none => if 5000 ≤ l.length then 20 else 0
def addL (l : List ByteArray) (s : ByteArray) : List ByteArray := if 60 < s.size then l else match ix l s with | some _ => l | none => if 5000 ≤ l.length then l else l ++ [s]

/-- What becomes of a table by a call that answers v. -/
def TabPost (w : World) (F : List Nat) (bt : Nat) (l : List ByteArray) (r : List Cmp) (v : Value) (e : Ending) (w' : World) : Prop :=
  e = .returned v ∧ ∃ F', Tab w' F' bt l r ∧ Turned F w w' ∧ Fresh w F F'
def two (a b : Int) : Value := .tuple #[.int .i64 a, .int .i64 b]

end Go.Proofs.YtdgmpickjdbhlaaDoor
