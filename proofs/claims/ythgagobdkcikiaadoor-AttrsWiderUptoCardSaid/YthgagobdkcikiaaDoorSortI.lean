/- The contract of slices.Sort at a row of the call's own. -/
import Derived.Test.YthgagobdkcikiaaDoorMem
import Derived.Test.YthgagobdkcikiaaDoorUp
import Derived.Test.YthgagobdkcikiaaDoorShelf
import Derived.Lib.OwnBridge
import Derived.Sort.OwnSortedInts
namespace Go.Proofs.YthgagobdkcikiaaDoor
open Go.RowKit Go.Sort

theorem sort_own (B n : Nat) (v : Value) (zs : List Int) (w : World) (hown : w.ownsRow B 3 1 v n (i64s zs)) (hn : n < 4611686018427387904) (hB : B ≤ w.heap.size) :
    Calls Tryd.prog 31 #[v] w fun e w' => e = .returned (.tuple #[]) ∧ w'.ownsRow B 3 1 v n (i64s (zs.mergeSort fun x y => decide (x ≤ y))) ∧ Below B w w' := by
  by_cases hv : v = .slice none 0 0
  · subst hv
    have hz : zs = [] := by
      have := hown.1
      rcases hown.2 with ⟨_, h⟩ | ⟨g, cap, cur, h, _⟩
      · subst h; apply List.eq_nil_of_length_eq_zero; simpa [i64s] using this
      · cases h
    subst hz
    refine (Tryd.slices_Sort_int_none none 0 w).mono ?_
    rintro e w' ⟨rfl, rfl⟩
    exact ⟨rfl, by simpa using hown, Below.refl _ _⟩
  · obtain ⟨g, cap, rfl, hg, hgl, hcap, hmax, hlen, hH⟩ := Lib.holds_of_ownsRow hown hv
    subst hlen
    refine (Tryd.slices_Sort_int g 0 cap zs w hH hgl hn).mono ?_
    rintro e w' ⟨rfl, k, os, rfl⟩
    rcases hown.2 with ⟨h, _⟩ | ⟨g', cap', cur, h, hb, hblk, h1, h2, h3, h4⟩
    · cases h
    · cases h
      refine ⟨rfl, ?_, (Below.refl B w).grown (grownBy_sortedI _) hB (fun k hk => by cases hk; exact hg)⟩
      exact ownsRow_sortedI (List.length_mergeSort zs) hb hblk h1 h2 h3
end Go.Proofs.YthgagobdkcikiaaDoor
