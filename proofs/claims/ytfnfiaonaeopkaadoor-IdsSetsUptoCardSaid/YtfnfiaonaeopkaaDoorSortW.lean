/- The contracts of slices.Clone, Sort and Compact at rows of the call's own, and of ids.Sort. -/
import Derived.Test.YtfnfiaonaeopkaaDoorWords
import Derived.Test.YtfnfiaonaeopkaaDoorSrt
import Derived.Test.YtfnfiaonaeopkaaDoorShelf
import Derived.Lib.OwnBridge
import Derived.Sort.OwnSortedInts
namespace Go.Proofs.YtfnfiaonaeopkaaDoor.old
set_option linter.unusedSimpArgs false
set_option linter.unusedVariables false
open Go.RowKit Go.Sort

theorem clone_rd (A : Option Addr) (n c B : Nat) (zs : List Int) (w : World) (hl : zs.length = n) (hn : n * 8 ≤ 140737488355328) (hr : Rd w B A (i64s zs)) :
    Calls Tryd.prog 21 #[.slice A n c] w fun e w' => ∃ v, e = .returned v ∧ w'.ownsRow w.heap.size 3 1 v n (i64s zs) ∧ Below w.heap.size w w' := by
  cases A with
  | none =>
    have hz : zs = [] := by
      cases zs with
      | nil => rfl
      | cons u r => obtain ⟨b, o, h, _⟩ := hr 0 _ rfl; cases h
    subst hz
    subst hl
    refine (Tryd.slices_Clone_int_nil _ c w).mono ?_
    rintro e w' ⟨rfl, rfl⟩
    exact ⟨_, rfl, World.ownsRow_nil _ _ _ _, Below.refl _ _⟩
  | some a =>
    by_cases h0 : n = 0
    · subst h0
      have hz : zs = [] := List.eq_nil_of_length_eq_zero hl
      subst hz
      refine (Tryd.slices_Clone_int_zero a c w).mono ?_
      rintro e w' ⟨v, rfl, hown, _, hb⟩
      exact ⟨_, rfl, hown, hb⟩
    · obtain ⟨b, o, ha, _, _⟩ := hr 0 (.int .i64 (zs[0]'(by omega))) (by simp [i64s, List.getElem?_eq_getElem (show 0 < zs.length by omega)])
      injection ha with ha
      subst ha
      refine (Tryd.slices_Clone_int b o n c zs w (by omega) hn fun j hj => ?_).mono ?_
      · obtain ⟨b', o', hA, _, hc⟩ := hr j (.int .i64 (zs[j]'hj)) (by simp [i64s, List.getElem?_eq_getElem hj])
        injection hA with hA
        injection hA with h1 h2
        subst h1
        subst h2
        rw [hc, List.getD_eq_getElem?_getD, List.getElem?_eq_getElem hj]
        rfl
      · rintro e w' ⟨v, rfl, hown, _, hb⟩
        rw [List.take_of_length_le (by omega)] at hown
        exact ⟨_, rfl, hown, hb⟩

theorem sort_own (B n : Nat) (v : Value) (zs : List Int) (w : World) (hown : w.ownsRow B 3 1 v n (i64s zs)) (hn : n < 4611686018427387904) (hB : B ≤ w.heap.size) :
    Calls Tryd.prog 22 #[v] w fun e w' => e = .returned (.tuple #[]) ∧ w'.ownsRow B 3 1 v n (i64s (zs.mergeSort fun x y => decide (x ≤ y))) ∧ Below B w w' := by
  by_cases hv : v = .slice none 0 0
  · subst hv
    have hz : zs = [] := by
      have := hown.1
      rcases hown.2 with ⟨_, h⟩ | ⟨g, cap, cur, h, _⟩
      · subst h; apply List.eq_nil_of_length_eq_zero; simpa [i64s] using this
      · cases h
    subst hz
    refine (Tryd.slices_Sort_int_none none 0 w).mono ?_
    rintro e w' ⟨rfl, rfl⟩
    exact ⟨rfl, by simpa using hown, Below.refl _ _⟩
  · obtain ⟨g, cap, rfl, hg, hgl, hcap, hmax, hlen, hH⟩ := Lib.holds_of_ownsRow hown hv
    subst hlen
    refine (Tryd.slices_Sort_int g 0 cap zs w hH hgl hn).mono ?_
    rintro e w' ⟨rfl, k, os, rfl⟩
    rcases hown.2 with ⟨h, _⟩ | ⟨g', cap', cur, h, hb, hblk, h1, h2, h3, h4⟩
    · cases h
    · cases h
      refine ⟨rfl, ?_, (Below.refl B w).grown (grownBy_sortedI _) hB (fun k hk => by cases hk; exact hg)⟩
      exact ownsRow_sortedI (List.length_mergeSort zs) hb hblk h1 h2 h3

theorem compact_own (B n : Nat) (v : Value) (zs : List Int) (w : World) (hown : w.ownsRow B 3 1 v n (i64s zs)) (hB : B ≤ w.heap.size) :
    Calls Tryd.prog 23 #[v] w fun e w' => ∃ v', e = .returned v' ∧ w'.ownsRow B 3 1 v' (Lib.compact zs).length (i64s (Lib.compact zs)) ∧ Below B w w' := by
  by_cases hv : v = .slice none 0 0
  · subst hv
    have hz : zs = [] := by
      have := hown.1
      rcases hown.2 with ⟨_, h⟩ | ⟨g, cap, cur, h, _⟩
      · subst h; apply List.eq_nil_of_length_eq_zero; simpa [i64s] using this
      · cases h
    subst hz
    refine (Tryd.slices_Compact_int_empty none 0 w).mono ?_
    rintro e w' ⟨rfl, rfl⟩
    exact ⟨_, rfl, World.ownsRow_nil _ _ _ _, Below.refl _ _⟩
  · obtain ⟨g, cap, rfl, hg, hgl, hcap, hmax, hlen, hH⟩ := Lib.holds_of_ownsRow hown hv
    subst hlen
    have hle := Lib.compact_length_le zs
    refine (Tryd.slices_Compact_int g 0 cap zs w hH (by unfold maxLen at hmax; omega) hcap).mono ?_
    rintro e w' ⟨rfl, q, rfl⟩
    have h := Lib.ownsRow_putRow (q := q) (k := (Lib.compact zs).length) (ys := Lib.compact zs ++ List.replicate (zs.length - (Lib.compact zs).length) 0) hown (by simp; omega) hle
    rw [List.take_left] at h
    exact ⟨_, rfl, h, Lib.below_putRow (Below.refl B w) hg⟩

def SrtPost (w : World) (l : List Int) (e : Ending) (w' : World) : Prop :=
  ∃ v, e = .returned v ∧ w'.ownsRow w.heap.size 3 1 v l.length (i64s l) ∧ Below w.heap.size w w'

theorem sort_any (A : Option Addr) (n c B : Nat) (zs : List Int) (w : World) (hl : zs.length = n) (hn : n * 8 ≤ 140737488355328) (hr : Rd w B A (i64s zs)) :
    Calls Tryd.prog 14 #[.slice A n c] w (SrtPost w (srt zs)) := by
  have C1 := Lib.hid (clone_rd A n c B zs w hl hn hr)
  go_enter Tryd.func14, Tryd.ntmps14
  clear hr hl
  go_wp2_with fail
  refine C1.out.mono ?_
  rintro e w1 ⟨v, rfl, hown, hb1⟩
  have C2 := Lib.hid (sort_own w.heap.size n v zs w1 hown (by omega) hb1.size)
  go_wp2_with fail
  refine C2.out.mono ?_
  rintro e w2 ⟨rfl, hown2, hb2⟩
  have C3 := Lib.hid (compact_own w.heap.size n v _ w2 hown2 (Nat.le_trans hb1.size hb2.size))
  go_wp2_with fail
  refine C3.out.mono ?_
  rintro e w3 ⟨v', rfl, hown3, hb3⟩
  go_wp2_with fail
  go_ret
  exact ⟨_, rfl, hown3, (hb1.trans hb2).trans hb3⟩
end Go.Proofs.YtfnfiaonaeopkaaDoor.old
