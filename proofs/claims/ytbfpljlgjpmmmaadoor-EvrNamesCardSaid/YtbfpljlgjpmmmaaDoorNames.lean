/- The walk of EvrNames. -/
import Derived.Test.YtbfpljlgjpmmmaaDoorAwake
namespace Go.Proofs.YtbfpljlgjpmmmaaDoor
set_option linter.unusedSimpArgs false
set_option linter.unusedVariables false
open Go.RowKit
set_option maxRecDepth 100000 in
theorem evrNames_walk (W : World) (hL : laidMetH Tryd.prog Rows.evrNamesRow.laid W) : Calls Tryd.prog 3 #[] W (TrueBelow W) := by
  clear hL
  go_enter Tryd.func3, Tryd.ntmps3
  go_wp2_with fail
  refine (awake_any _).mono ?_
  rintro e w1 ⟨rfl, hb1⟩
  go_wp2_with fail
  go_ret
  exact ⟨rfl, hb1⟩
end Go.Proofs.YtbfpljlgjpmmmaaDoor
