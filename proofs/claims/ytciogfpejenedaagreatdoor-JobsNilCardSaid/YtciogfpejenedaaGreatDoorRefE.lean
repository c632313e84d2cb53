/- The document's answer: a version taken apart. -/
import Derived.Test.YtciogfpejenedaaGreatDoorParse
namespace Go.Proofs.YtciogfpejenedaaGreatDoor
set_option linter.unusedSimpArgs false
set_option linter.unusedVariables false
open Go.RowKit

theorem no_at {l : List UInt8} {c : UInt8} (hn : ∀ j : Nat, j < l.length → l[j]? ≠ some c) : c ∉ l := fun hm => by
  obtain ⟨j, hj, e⟩ := List.mem_iff_getElem.1 hm
  exact hn j hj (by rw [List.getElem?_eq_getElem hj, e])
theorem vr_nil {e : List UInt8} : vr e [] = none := rfl
theorem u8_hit {c : UInt8} {d : UInt8} {n : Int} (hn : (d.toNat : Int) = n) (h : c = d) : ((c.toNat : Int) == n) = true ∧ ((c.toNat : Int) != n) = false := by
  subst h; subst hn; simp
theorem u8_miss {c : UInt8} {d : UInt8} {n : Int} (hn : (d.toNat : Int) = n) (h : ¬ c = d) : ((c.toNat : Int) == n) = false ∧ ((c.toNat : Int) != n) = true := by
  have : ¬ (c.toNat : Int) = n := fun e => h (UInt8.toNat_inj.1 (by omega))
  exact ⟨beq_eq_false_iff_ne.2 this, by simp [bne, beq_eq_false_iff_ne.2 this]⟩
theorem blank_of {s : ByteArray} (h : s.size ≠ 0) : s.toList.isEmpty = false ∧ ¬ s.toList = [] ∧ s.data.toList ≠ [] := by
  have hp : 0 < s.size := by omega
  refine ⟨toList_cons hp, ?_, ?_⟩
  · intro e; have := toList_cons hp; rw [e] at this; cases this
  · intro e; have := size_len s; rw [e] at this; simp at this; omega
end Go.Proofs.YtciogfpejenedaaGreatDoor
