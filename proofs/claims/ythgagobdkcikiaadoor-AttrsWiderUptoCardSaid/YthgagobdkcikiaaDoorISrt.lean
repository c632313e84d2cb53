/- Sorting and leaving out what comes twice: of a list alone: the result rises, and has the same members. -/
import Derived.Lib.SlicesCompact
namespace Go.Proofs.YthgagobdkcikiaaDoor.Ids

def srt (zs : List Int) : List Int := Lib.compact (zs.mergeSort fun x y => decide (x ≤ y))

theorem compactUpTo_mem (d : Array Int) (m : Nat) (x : Int) : x ∈ Lib.compactUpTo d m ↔ ∃ j, j < m ∧ d[j]! = x := by
  induction m with
  | zero => simp [Lib.compactUpTo]
  | succ m ih =>
    rw [Lib.compactUpTo_succ, List.mem_append, ih]
    constructor
    · rintro (⟨j, hj, e⟩ | h)
      · exact ⟨j, by omega, e⟩
      · split at h
        · exact ⟨m, by omega, (List.mem_singleton.1 h).symm⟩
        · cases h
    · rintro ⟨j, hj, e⟩
      by_cases hjm : j = m
      · subst hjm
        by_cases hk : Lib.keeps d j = true
        · right; rw [if_pos hk]; simp [e]
        · left
          have hk' : ¬ (j = 0 ∨ d[j]! ≠ d[j - 1]!) := by simpa [Lib.keeps] using hk
          have h0 : ¬ j = 0 := fun h => hk' (.inl h)
          have h1 : d[j]! = d[j - 1]! := Classical.byContradiction fun h => hk' (.inr h)
          exact ⟨j - 1, by omega, by rw [← h1]; exact e⟩
      · left; exact ⟨j, by omega, e⟩

theorem compactUpTo_rise (d : Array Int) (hs : ∀ i j, i ≤ j → j < d.size → d[i]! ≤ d[j]!) (m : Nat) (hm : m ≤ d.size) : (Lib.compactUpTo d m).Pairwise (· < ·) := by
  induction m with
  | zero => simp [Lib.compactUpTo]
  | succ m ih =>
    rw [Lib.compactUpTo_succ]
    split
    · rename_i hk
      refine List.pairwise_append.2 ⟨ih (by omega), by simp, ?_⟩
      intro x hx y hy
      obtain rfl := List.mem_singleton.1 hy
      obtain ⟨j, hj, rfl⟩ := (compactUpTo_mem d m x).1 hx
      have h1 := hs j (m - 1) (by omega) (by omega)
      have h2 := hs (m - 1) m (by omega) (by omega)
      have h3 : m = 0 ∨ d[m]! ≠ d[m - 1]! := by simpa [Lib.keeps] using hk
      rcases h3 with h3 | h3 <;> omega
    · simpa using ih (by omega)

theorem get_bang (l : List Int) (i : Nat) (h : i < l.length) : (l.toArray)[i]! = l[i] := by
  simp [getElem!_pos, h]

theorem mergeSort_get (zs : List Int) (i j : Nat) (hij : i ≤ j) (hj : j < (zs.mergeSort fun x y => decide (x ≤ y)).length) :
    (zs.mergeSort fun x y => decide (x ≤ y)).toArray[i]! ≤ (zs.mergeSort fun x y => decide (x ≤ y)).toArray[j]! := by
  have hp := List.pairwise_mergeSort (le := fun x y : Int => decide (x ≤ y)) (by intro a b c; simp; omega) (by intro a b; simp; omega) zs
  rw [get_bang _ _ hj, get_bang _ _ (by omega)]
  by_cases h : i = j
  · subst h; exact Int.le_refl _
  · have := List.pairwise_iff_getElem.1 hp i j (by omega) hj (by omega)
    simpa using this

theorem srt_rise (zs : List Int) : (srt zs).Pairwise (· < ·) :=
  compactUpTo_rise _ (fun i j hij hj => mergeSort_get zs i j hij (by simpa using hj)) _ (by simp)

theorem srt_mem (zs : List Int) (x : Int) : x ∈ srt zs ↔ x ∈ zs := by
  unfold srt Lib.compact
  rw [compactUpTo_mem]
  constructor
  · rintro ⟨j, hj, rfl⟩
    rw [get_bang _ _ hj]
    exact List.mem_mergeSort.1 (List.getElem_mem _)
  · intro h
    obtain ⟨j, hj, e⟩ := List.getElem_of_mem (List.mem_mergeSort.2 h : x ∈ zs.mergeSort fun x y => decide (x ≤ y))
    exact ⟨j, hj, by rw [get_bang _ _ hj]; exact e⟩

/-- Two rising lists with the same members are one. -/
theorem rise_ext : ∀ (a b : List Int), a.Pairwise (· < ·) → b.Pairwise (· < ·) → (∀ x, x ∈ a ↔ x ∈ b) → a = b
  | [], [], _, _, _ => rfl
  | [], y :: b, _, _, h => absurd ((h y).2 (by simp)) (by simp)
  | x :: a, [], _, _, h => absurd ((h x).1 (by simp)) (by simp)
  | x :: a, y :: b, ha, hb, h => by
    have ha' := List.pairwise_cons.1 ha
    have hb' := List.pairwise_cons.1 hb
    have hxy : x = y := by
      rcases List.mem_cons.1 ((h x).1 (by simp)) with e | e
      · exact e
      · rcases List.mem_cons.1 ((h y).2 (by simp)) with e' | e'
        · exact e'.symm
        · have := ha'.1 y e'; have := hb'.1 x e; omega
    subst hxy
    rw [rise_ext a b ha'.2 hb'.2 fun z => ?_]
    constructor
    · intro hz
      rcases List.mem_cons.1 ((h z).1 (List.mem_cons_of_mem _ hz)) with e | e
      · subst e; exact absurd (ha'.1 z hz) (by omega)
      · exact e
    · intro hz
      rcases List.mem_cons.1 ((h z).2 (List.mem_cons_of_mem _ hz)) with e | e
      · subst e; exact absurd (hb'.1 z hz) (by omega)
      · exact e

theorem nodup_len : ∀ (a b : List Int), a.Nodup → (∀ x, x ∈ a → x ∈ b) → a.length ≤ b.length
  | [], _, _, _ => by simp
  | x :: a, b, hn, h => by
    have hx : x ∈ b := h x (by simp)
    have hn' := List.nodup_cons.1 hn
    have := nodup_len a (b.erase x) hn'.2 fun y hy => (List.mem_erase_of_ne (show y ≠ x from fun e => hn'.1 (by rw [← e]; exact hy))).2 (h y (List.mem_cons_of_mem _ hy))
    rw [List.length_erase_of_mem hx] at this
    have h0 := List.length_pos_of_mem hx
    simp only [List.length_cons]
    omega

theorem rise_len_le (a b : List Int) (ha : a.Pairwise (· < ·)) (h : ∀ x, x ∈ a → x ∈ b) : a.length ≤ b.length := by
  have hn : a.Nodup := ha.imp fun h => by omega
  exact nodup_len a b hn h

theorem srt_len (zs : List Int) : (srt zs).length ≤ zs.length := rise_len_le _ _ (srt_rise zs) fun x hx => (srt_mem zs x).1 hx
theorem srt_of_rise (zs : List Int) (h : zs.Pairwise (· < ·)) : srt zs = zs := rise_ext _ _ (srt_rise zs) h (srt_mem zs)

end Go.Proofs.YthgagobdkcikiaaDoor.Ids
