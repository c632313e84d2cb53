/- Rising lists of texts: put one by one, or sorted and made single. Nothing of the program. -/
import Derived.Test.YtghbhajiddnmkaaGreatDoorGlue
import Derived.Shelf.Slices.CompactS
namespace Go.Proofs.YtghbhajiddnmkaaGreatDoor
set_option linter.unusedSimpArgs false
set_option linter.unusedVariables false

abbrev Tx := List UInt8
theorem tx_irrefl (a : Tx) : ¬ a < a := List.lt_irrefl a
theorem tx_trans {a b c : Tx} (h : a < b) (k : b < c) : a < c := List.lt_trans h k
theorem tx_asymm {a b : Tx} (h : a < b) : ¬ b < a := fun k => tx_irrefl a (tx_trans h k)
theorem tx_tri {a b : Tx} (h : ¬ a < b) (hne : a ≠ b) : b < a := by
  have h1 : b ≤ a := List.not_lt.1 h
  rcases Classical.em (b < a) with h2 | h2
  · exact h2
  · exact absurd (List.le_antisymm (List.not_lt.1 h2) h1) hne
def putN : List Tx → Tx → List Tx
  | [], s => [s]
  | x :: r, s => if x < s then x :: putN r s else if x = s then x :: r else s :: x :: r
def Rise (l : List Tx) : Prop := l.Pairwise (· < ·)
theorem mem_putN (l : List Tx) (s x : Tx) : x ∈ putN l s ↔ x = s ∨ x ∈ l := by
  induction l with
  | nil => simp [putN]
  | cons y r ih =>
    unfold putN
    split
    · simp only [List.mem_cons, ih]
      constructor
      · rintro (h | h | h) <;> simp [h]
      · rintro (h | h | h) <;> simp [h]
    · split
      · rename_i h; subst h; simp
      · simp
theorem putN_rise {l : List Tx} (h : Rise l) (s : Tx) : Rise (putN l s) := by
  induction l with
  | nil => exact List.pairwise_singleton _ _
  | cons y r ih =>
    have h' := List.pairwise_cons.1 h
    unfold putN
    split
    · rename_i hy
      refine List.pairwise_cons.2 ⟨fun z hz => ?_, ih h'.2⟩
      rcases (mem_putN r s z).1 hz with rfl | hz
      · exact hy
      · exact h'.1 z hz
    · rename_i hy
      split
      · exact h
      · rename_i hne
        have hs := tx_tri hy hne
        refine List.pairwise_cons.2 ⟨fun z hz => ?_, h⟩
        rcases List.mem_cons.1 hz with rfl | hz
        · exact hs
        · exact tx_trans hs (h'.1 z hz)
theorem rise_nodup {l : List Tx} (h : Rise l) : l.Nodup := List.Pairwise.imp (R := (· < ·)) (fun hab => by rintro rfl; exact tx_irrefl _ hab) h
theorem rise_eq {l m : List Tx} (hl : Rise l) (hm : Rise m) (h : ∀ x, x ∈ l ↔ x ∈ m) : l = m :=
  List.Perm.eq_of_pairwise (le := (· < ·)) (fun a b _ _ h1 h2 => absurd h2 (tx_asymm h1)) hl hm ((List.perm_ext_iff_of_nodup (rise_nodup hl) (rise_nodup hm)).2 h)
def putAll (l : List Tx) (xs : List Tx) : List Tx := xs.foldl putN l
theorem putAll_rise : ∀ (xs l : List Tx), Rise l → Rise (putAll l xs)
  | [], l, h => h
  | x :: r, l, h => putAll_rise r (putN l x) (putN_rise h x)
theorem mem_putAll : ∀ (xs l : List Tx) (x : Tx), x ∈ putAll l xs ↔ x ∈ l ∨ x ∈ xs
  | [], l, x => by simp [putAll]
  | y :: r, l, x => by
    show x ∈ putAll (putN l y) r ↔ _
    rw [mem_putAll r, mem_putN, List.mem_cons]
    constructor
    · rintro ((h | h) | h) <;> simp [h]
    · rintro (h | h | h) <;> simp [h]
theorem tx_le_of_lt {a b : Tx} (h : a < b) : a ≤ b := List.not_lt.1 (tx_asymm h)
theorem tx_lt_of {a b : Tx} (h : a ≤ b) (hne : a ≠ b) : a < b := by
  rcases Classical.em (a < b) with h1 | h1
  · exact h1
  · exact absurd (List.le_antisymm h (List.not_lt.1 h1)) hne
theorem tx_le_refl (a : Tx) : a ≤ a := List.not_lt.1 (tx_irrefl a)
theorem tx_le_lt {a b c : Tx} (h : a ≤ b) (k : b < c) : a < c := by
  by_cases e : a = b
  · rw [e]; exact k
  · exact tx_trans (tx_lt_of h e) k
theorem tx_le_trans {a b c : Tx} (h : a ≤ b) (k : b ≤ c) : a ≤ c := by
  by_cases e : b = c
  · rw [← e]; exact h
  · exact tx_le_of_lt (tx_le_lt h (tx_lt_of k e))
theorem compact_inv (d : Array Tx) (hs : ∀ i j, i < j → j < d.size → d[i]! ≤ d[j]!) : ∀ m, m ≤ d.size → Rise (Lib.compactUpTo d m) ∧ (∀ x, x ∈ Lib.compactUpTo d m ↔ ∃ j, j < m ∧ d[j]! = x) ∧ (0 < m → ∀ x ∈ Lib.compactUpTo d m, x ≤ d[m - 1]!)
  | 0, _ => by
    refine ⟨List.Pairwise.nil, fun x => ?_, fun h => by omega⟩
    simp [Lib.compactUpTo]
  | m + 1, hm => by
    obtain ⟨h1, h2, h3⟩ := compact_inv d hs m (by omega)
    rw [Lib.compactUpTo_succ]
    by_cases hk : m = 0 ∨ d[m]! ≠ d[m - 1]!
    · have hkp : Lib.keeps d m = true := by unfold Lib.keeps; exact decide_eq_true hk
      rw [hkp]
      simp only [if_true]
      have hlt : ∀ x ∈ Lib.compactUpTo d m, x < d[m]! := fun x hx => by
        rcases Nat.eq_zero_or_pos m with h0 | h0
        · subst h0; simp [Lib.compactUpTo] at hx
        · have hne : d[m]! ≠ d[m - 1]! := by
            rcases hk with h | h
            · omega
            · exact h
          exact tx_le_lt (h3 h0 x hx) (tx_lt_of (hs (m - 1) m (by omega) (by omega)) (Ne.symm hne))
      refine ⟨List.pairwise_append.2 ⟨h1, List.pairwise_singleton _ _, fun a ha b hb => ?_⟩, fun x => ?_, fun _ x hx => ?_⟩
      · simp at hb; subst hb; exact hlt a ha
      · rw [List.mem_append, h2]
        constructor
        · rintro (⟨j, hj, e⟩ | h)
          · exact ⟨j, by omega, e⟩
          · simp at h; exact ⟨m, by omega, h.symm⟩
        · rintro ⟨j, hj, e⟩
          by_cases hjm : j = m
          · subst hjm; right; simp [e]
          · left; exact ⟨j, by omega, e⟩
      · rw [Nat.add_sub_cancel]
        rcases List.mem_append.1 hx with hx | hx
        · exact tx_le_of_lt (hlt x hx)
        · simp at hx; subst hx; exact tx_le_refl _
    · have h0 : 0 < m := by
        rcases Nat.eq_zero_or_pos m with h0 | h0
        · exact absurd (.inl h0) hk
        · exact h0
      have he : d[m]! = d[m - 1]! := Classical.not_not.1 fun h => hk (.inr h)
      have hkn : Lib.keeps d m = false := by unfold Lib.keeps; exact decide_eq_false hk
      rw [hkn]
      simp only [Bool.false_eq_true, if_false, List.append_nil]
      refine ⟨h1, fun x => ?_, fun _ x hx => ?_⟩
      · rw [h2]
        constructor
        · rintro ⟨j, hj, e⟩
          exact ⟨j, by omega, e⟩
        · rintro ⟨j, hj, e⟩
          by_cases hjm : j = m
          · subst hjm; exact ⟨j - 1, by omega, by rw [← he]; exact e⟩
          · exact ⟨j, by omega, e⟩
      · rw [Nat.add_sub_cancel, he]
        exact h3 h0 x hx
theorem compact_sorted (l : List Tx) : Lib.compact (l.mergeSort fun x y => decide (x ≤ y)) = putAll [] l := by
  have hsort : (l.mergeSort fun x y => decide (x ≤ y)).Pairwise (fun x y => x ≤ y) := by
    have := List.pairwise_mergeSort (le := fun x y : Tx => decide (x ≤ y)) (fun a b c h k => by
      simp only [decide_eq_true_eq] at h k ⊢
      exact tx_le_trans h k) (fun a b => by
      simp only [Bool.or_eq_true, decide_eq_true_eq]
      by_cases h : a ≤ b
      · exact .inl h
      · right
        by_cases e : a = b
        · exact absurd (e ▸ tx_le_refl a) h
        · exact tx_le_of_lt (tx_tri (fun k => h (tx_le_of_lt k)) e)) l
    exact this.imp fun h => by simpa using h
  generalize hz : (l.mergeSort fun x y => decide (x ≤ y)) = zs at hsort
  have hmem : ∀ x, x ∈ zs ↔ x ∈ l := fun x => by rw [← hz]; exact List.mem_mergeSort
  have hs : ∀ i j, i < j → j < zs.toArray.size → zs.toArray[i]! ≤ zs.toArray[j]! := fun i j hij hj => by
    have hj' : j < zs.length := by simpa using hj
    have := List.pairwise_iff_getElem.1 hsort i j (by omega) hj' hij
    rw [getElem!_pos zs.toArray i (by simp; omega), getElem!_pos zs.toArray j hj]
    exact this
  obtain ⟨h1, h2, _⟩ := compact_inv zs.toArray hs zs.length (by simp)
  refine rise_eq h1 (putAll_rise _ _ List.Pairwise.nil) fun x => ?_
  show x ∈ Lib.compactUpTo zs.toArray zs.length ↔ _
  rw [h2, mem_putAll, ← hmem]
  constructor
  · rintro ⟨j, hj, e⟩
    right
    rw [getElem!_pos zs.toArray j (by simpa using hj)] at e
    rw [← e]
    simp
  · rintro (h | h)
    · cases h
    · obtain ⟨j, hj, e⟩ := List.mem_iff_getElem.1 h
      refine ⟨j, hj, ?_⟩
      rw [getElem!_pos zs.toArray j (by simpa using hj)]
      simpa using e
end Go.Proofs.YtghbhajiddnmkaaGreatDoor
