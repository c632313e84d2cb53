/- The document's answer: Meets. -/
import Derived.Test.YtbfpljlgjpmmmaaDoorRefH
import Derived.Test.YtbfpljlgjpmmmaaDoorMeet
namespace Go.Proofs.YtbfpljlgjpmmmaaDoor
set_option linter.unusedSimpArgs false
set_option linter.unusedVariables false
open Go.RowKit

set_option maxRecDepth 100000 in
theorem refHas_any (op bit : Int) (ho : 0 ≤ op ∧ op ≤ 7) (hb : bit = 1 ∨ bit = 2 ∨ bit = 4) (w : World) : Calls Tryd.prog 32 #[.int .i64 op, .int .i64 bit] w fun e w' => e = .returned (.bool (hasB op bit)) ∧ w = w' := by
  obtain ⟨n, rfl⟩ : ∃ n : Nat, op = (n : Int) := ⟨op.toNat, by omega⟩
  have hn : n < 8 := by omega
  clear ho
  rcases hb with rfl | rfl | rfl <;> (rcases n with _ | _ | _ | _ | _ | _ | _ | _ | n) <;> first | omega | skip
  all_goals
    go_enter Tryd.func32, Tryd.ntmps32
    go_wp2_with fail
    go_ret
    exact ⟨rfl, rfl⟩

end Go.Proofs.YtbfpljlgjpmmmaaDoor
