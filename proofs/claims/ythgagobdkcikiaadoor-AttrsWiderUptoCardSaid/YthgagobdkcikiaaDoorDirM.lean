/- Directories: what a path's parts lead to; parts and paths as lists of bytes. -/
import Derived.Test.YthgagobdkcikiaaDoorAddDir
import Derived.Test.YthgagobdkcikiaaDoorParts
namespace Go.Proofs.YthgagobdkcikiaaDoor
set_option linter.unusedSimpArgs false
set_option linter.unusedVariables false
open Go.RowKit

/-- How far the parts lead: the directory, and what is left. -/
def wk (ds : List DirE) : Nat → List ByteArray → Nat × List ByteArray
  | n, [] => (n, [])
  | n, p :: r => match ix ds (n, p) with
    | some k => wk ds k r
    | none => (n, p :: r)
/-- What is left is added. -/
def mkd : List DirE → Nat → List ByteArray → Nat × List DirE
  | ds, n, [] => (n, ds)
  | ds, n, p :: r => mkd (ds ++ [(n, p)]) ds.length r
/-- What Dir answers, and the directories behind it. -/
def dirAns (ds : List DirE) (path : ByteArray) : (Nat × Int) × List DirE :=
  match partsOf path with
  | none => ((0, 85), ds)
  | some l => if 2000 < ds.length + (wk ds 0 l).2.length then ((0, 83), ds) else ((((mkd ds (wk ds 0 l).1 (wk ds 0 l).2).1 : Nat), 0), (mkd ds (wk ds 0 l).1 (wk ds 0 l).2).2)

theorem wk_lt {ds : List DirE} : ∀ (l : List ByteArray) (n : Nat), n < ds.length → (wk ds n l).1 < ds.length
  | [], n, h => h
  | p :: r, n, h => by
    unfold wk
    cases hi : ix ds (n, p) with
    | none => exact h
    | some k => exact wk_lt r k (ix_lt hi)
theorem wk_left {ds : List DirE} : ∀ (l : List ByteArray) (n : Nat), (wk ds n l).2 = [] ∨ ∃ p r, (wk ds n l).2 = p :: r ∧ ix ds ((wk ds n l).1, p) = none
  | [], n => .inl rfl
  | p :: r, n => by
    unfold wk
    cases hi : ix ds (n, p) with
    | none => exact .inr ⟨p, r, rfl, hi⟩
    | some k => exact wk_left r k
theorem wk_suffix {ds : List DirE} : ∀ (l : List ByteArray) (n : Nat), ∀ p, p ∈ (wk ds n l).2 → p ∈ l
  | [], n, p, h => h
  | q :: r, n, p, h => by
    unfold wk at h
    cases hi : ix ds (n, q) with
    | none => rw [hi] at h; exact h
    | some k => rw [hi] at h; exact List.mem_cons_of_mem _ (wk_suffix r k p h)
theorem wk_short {ds : List DirE} : ∀ (l : List ByteArray) (n : Nat), (wk ds n l).2.length ≤ l.length
  | [], n => Nat.le_refl _
  | q :: r, n => by
    unfold wk
    cases hi : ix ds (n, q) with
    | none => exact Nat.le_refl _
    | some k => have := wk_short (ds := ds) r k; simp only [List.length_cons]; omega
/-- A directory that has just come has none in it. -/
theorem new_none {ds : List DirE} (h : DirsOk ds) {d : DirE} (hd : d.1 < ds.length) (q : ByteArray) : ix (ds ++ [d]) (ds.length, q) = none := by
  rw [ix_none]
  intro hm
  rcases List.mem_append.1 hm with hm | hm
  · obtain ⟨k, hk⟩ := List.mem_iff_getElem?.1 hm
    have hl := (List.getElem?_eq_some_iff.1 hk).1
    rcases Nat.eq_zero_or_pos k with h0 | h0
    · subst h0
      rw [h.root] at hk
      injection hk with hk
      injection hk with hk1 hk2
      omega
    · have := h.up k _ hk h0
      simp only at this
      omega
  · simp at hm
    subst hm
    simp only at hd
    omega
theorem root_lt {ds : List DirE} (h : DirsOk ds) : 0 < ds.length := (List.getElem?_eq_some_iff.1 h.root).1

/-! Parts and their join. -/
def joinP : List (List UInt8) → List UInt8
  | [] => []
  | p :: r => 47 :: p ++ joinP r
theorem split_join : ∀ (k : Nat) (s : ByteArray), Lib.countB s slash = k → (∀ p, p ∈ Lib.splitB slash 0 k s → (47 : UInt8) ∉ p.data.toList ∧ p.size ≤ s.size) ∧ joinP ((Lib.splitB slash 0 k s).map (·.data.toList)) = 47 :: s.data.toList
  | 0, s, hk => by
    rw [Lib.splitB_zero]
    refine ⟨fun p hp => ?_, by simp [joinP]⟩
    simp at hp
    subst hp
    refine ⟨fun hm => ?_, Nat.le_refl _⟩
    have h := Lib.count_one 47 p.data.toList
    have h0 : Lib.count p.data.toList [47] = 0 := hk
    rw [h0] at h
    exact List.count_eq_zero.1 h.symm hm
  | k + 1, s, hk => by
    rcases Lib.indexB_cases s slash with hix | ⟨i, hix, hroom⟩
    · rw [Lib.countB_miss s slash hix] at hk; omega
    · have hc := Lib.countB_hit s slash i (by decide) hix
      have hs : slash.size = 1 := rfl
      rw [hs] at hc hroom
      rw [Lib.splitB_hit slash 0 k s i hix]
      obtain ⟨h1, h2⟩ := split_join k (s.extract (i + 1) s.size) (by omega)
      have hsp : Lib.index s.data.toList [47] = (i : Int) := hix
      have hno : (47 : UInt8) ∉ s.data.toList.take i ∧ s.data.toList[i]? = some 47 := by
        rcases Lib.index_spec s.data.toList [47] with ⟨e, _⟩ | ⟨j, e, _, e3, e4⟩
        · rw [hsp] at e; omega
        · obtain rfl : i = j := by rw [hsp] at e; omega
          refine ⟨fun hm => ?_, occ_one.1 e3⟩
          obtain ⟨x, hx⟩ := List.mem_iff_getElem?.1 hm
          have hx' := (List.getElem?_eq_some_iff.1 hx).1
          rw [List.length_take] at hx'
          rw [List.getElem?_take, if_pos (by omega)] at hx
          have := e4 x (by omega)
          rw [occ_one.2 hx] at this
          cases this
      constructor
      · intro p hp
        rw [hs] at hp
        rcases List.mem_cons.1 hp with rfl | hp
        · rw [Nat.add_zero, bl_upto]
          exact ⟨hno.1, by simp <;> omega⟩
        · have := h1 p hp
          refine ⟨this.1, Nat.le_trans this.2 (by simp <;> omega)⟩
      · rw [hs, List.map_cons, joinP, h2, Nat.add_zero, bl_upto, bl_from]
        have hlt := (List.getElem?_eq_some_iff.1 hno.2).1
        have e : s.data.toList = s.data.toList.take i ++ 47 :: s.data.toList.drop (i + 1) := by
          have h5 := hno.2
          rw [List.getElem?_eq_getElem hlt] at h5
          injection h5 with h5
          rw [← h5, List.getElem_cons_drop hlt]
          exact (List.take_append_drop i _).symm
        simp only [List.cons_append]
        rw [← e]
/-- A path's parts, put together, are the path, but for / alone. -/
theorem parts_spec {p : ByteArray} {l : List ByteArray} (h : partsOf p = some l) :
    (p.data.toList = [47] ∧ l = []) ∨ (l ≠ [] ∧ joinP (l.map (·.data.toList)) = p.data.toList ∧ ∀ q, q ∈ l → (47 : UInt8) ∉ q.data.toList ∧ q.size ≤ 200 ∧ q.data.toList ≠ []) := by
  unfold partsOf at h
  split at h
  · injection h with h; exact .inl ⟨by assumption, h.symm⟩
  · split at h
    · rename_i hc
      obtain ⟨h1, h2, h3⟩ := hc
      injection h with h
      subst h
      right
      have hr := rest_le p h1
      obtain ⟨s1, s2⟩ := split_join _ (restOf p) rfl
      refine ⟨fun e => ?_, ?_, fun q hq => ?_⟩
      · have := split_len (restOf p)
        rw [e] at this
        simp at this
      · have : joinP ((splitOf (restOf p)).map (·.data.toList)) = 47 :: (restOf p).data.toList := s2
        rw [this]
        unfold restOf Lib.trimPrefix
        rw [if_pos h1]
        unfold Lib.hasPrefix at h1
        cases hp : p.data.toList with
        | nil => rw [hp] at h1; cases h1
        | cons c t =>
          rw [hp] at h1
          simp [List.isPrefixOf] at h1
          subst h1
          simp
      · have := s1 q hq
        refine ⟨this.1, by omega, fun e => ?_⟩
        have h4 : (splitOf (restOf p)).any noPart = true := any_yes hq (by
          have : q = ⟨#[]⟩ := s_ext e
          unfold noPart
          rw [this]; simp)
        rw [h3] at h4; cases h4
    · cases h
end Go.Proofs.YthgagobdkcikiaaDoor
