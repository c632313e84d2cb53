/- What the world's shape says of the library's variable; what all laws begin with. -/
import Derived.Test.YthgagobdkcikiaaDoorAwake
namespace Go.Proofs.YthgagobdkcikiaaDoor
set_option linter.unusedSimpArgs false
set_option linter.unusedVariables false
open Go.RowKit
theorem max_of {W : World} (h : W.ShapedOpen Tryd.prog) : MaxAt W ∧ 0 < W.heap.size := by
  have hm : ∃ m, W.cell? ⟨0, 0, none⟩ = some (.int .i64 m) := Go.Proofs.cell_of_shapedOpen_int (zero := #[.int .i64 0]) (t := 3) h (of_decide_eq_true (by kernel_rfl)) (by kernel_rfl) rfl (by kernel_rfl) (by kernel_rfl) Tryd.underlying3
  exact ⟨hm, by obtain ⟨m, hm⟩ := hm; exact cell_lt hm⟩
theorem awake_at (W : World) (h : W.ShapedOpen Tryd.prog) : Calls Tryd.prog 8 #[] W fun e w' => e = .returned (.bool true) ∧ Below W.heap.size W w' := awake_any W (max_of h).1 (max_of h).2
theorem MaxAt.at_ {W w : World} (h : W.ShapedOpen Tryd.prog) (hb : Below W.heap.size W w) : MaxAt w := (max_of h).1.below hb (max_of h).2
end Go.Proofs.YthgagobdkcikiaaDoor
