/- The walk of AttrsNames. -/
import Derived.Test.YthgagobdkcikiaaDoorMax
namespace Go.Proofs.YthgagobdkcikiaaDoor
set_option linter.unusedSimpArgs false
set_option linter.unusedVariables false
open Go.RowKit
set_option maxRecDepth 100000 in
theorem attrsNames_walk (W : World) (hL : laidMetH Tryd.prog Rows.attrsNamesRow.laid W) (hSh : W.ShapedOpen Tryd.prog) : Calls Tryd.prog 3 #[] W (TrueBelow W) := by
  have C := Lib.hid (awake_at W hSh)
  clear hL hSh
  go_enter Tryd.func3, Tryd.ntmps3
  go_wp2_with fail
  refine C.out.mono ?_
  rintro e w1 ⟨rfl, hb1⟩
  go_wp2_with fail
  go_ret
  exact ⟨rfl, hb1⟩
end Go.Proofs.YthgagobdkcikiaaDoor
