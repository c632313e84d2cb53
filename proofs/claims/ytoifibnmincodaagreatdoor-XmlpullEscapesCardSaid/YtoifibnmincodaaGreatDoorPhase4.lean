/- A region that draws its order: what is not wanted. -/
import Derived.Test.YtoifibnmincodaaGreatDoorPhase
namespace Go.Proofs.YtoifibnmincodaaGreatDoor
set_option linter.unusedSimpArgs false
set_option linter.unusedVariables false
open Go
section
variable {P : Program} {ops : Array Oper} {Q : Exit → Act → World → Prop} {md : Region.Mode} {S : Array Bool → World → Prop}
/-- Take number i first, whose guard does not hold. -/
theorem wpAnyS_skip {i : Nat} {oi : Oper} {fuel : Nat} {listed : Array Bool} {a : Act} {w : World} (hi : ops[i]? = some oi)
    (hs : Region.noSelect ops = true) (hf : Region.free md ops listed i = true) (hr : (Region.ready md ops listed).contains i = true)
    (hQ : ∀ c a w, Q (.panic c) (a.put oi.dst undef) w → Q (.panic c) a w)
    (hio : ∀ l w, S (l.setIfInBounds i true) w ↔ S l w)
    (hwt : ((List.range ops.size).all fun k => !Region.waitsFor md ops k i || !listed.getD k true) = true)
    (hS : S listed w) (hw : Region.wanted oi (yielded ops a.tmps) = false)
    (h : S (listed.setIfInBounds i true) w → wpAnyS P md ops Q S fuel (listed.setIfInBounds i true) (a.put oi.dst undef) w) : wpAnyS P md ops Q S (fuel + 1) listed a w := by
  refine wpAnyS_first (S' := fun _ => True) hi (Region.noSelect_spec hs) hQ (fun _ _ _ _ => trivial) hio fuel listed a w (Region.free_spec hi hf) (fun k hk => ?_) (by simpa using hr) (.inr ⟨hw, rfl⟩) hS (h ((hio _ _).2 hS))
  obtain ⟨o', ho', _⟩ := Region.waitsFor_spec hk
  have h1 := List.all_eq_true.1 hwt k (List.mem_range.2 (Array.getElem?_eq_some_iff.1 ho').1)
  rw [hk] at h1
  simpa using h1
/-- Till number n, a store, nothing has turned. -/
def TillN (n : Nat) (w0 : World) (l : Array Bool) (w : World) : Prop := l.getD n true = false → w = w0
theorem TillN.io {n i : Nat} {w0 : World} (h : i ≠ n) (l : Array Bool) (w : World) : TillN n w0 (l.setIfInBounds i true) w ↔ TillN n w0 l w := by
  unfold TillN
  rw [getD_set_ne true h]
end
end Go.Proofs.YtoifibnmincodaaGreatDoor
