/- The walk of EvrCompares. -/
import Derived.Test.YtbfpljlgjpmmmaaDoorAwake
import Derived.Test.YtbfpljlgjpmmmaaDoorRefH
namespace Go.Proofs.YtbfpljlgjpmmmaaDoor
set_option linter.unusedSimpArgs false
set_option linter.unusedVariables false
open Go.RowKit
set_option maxHeartbeats 4000000 in
set_option maxRecDepth 1000000 in
theorem evrCompares_walk {H : Type} {enc : TypeId × Value → H} (W : World) {v0 v1 v2 : Value} {d0 d1 d2 : DataW H} (h0 : In enc Tryd.prog W 3 v0 d0) (h1 : In enc Tryd.prog W 9 v1 d1) (h2 : In enc Tryd.prog W 9 v2 d2)
    (hL : laidMetH Tryd.prog Rows.evrComparesRow.laid W) (hsz : (DataW.weightsEach Tryd.prog [3, 9, 9] [d0, d1, d2]).all (· ≤ reachBytes) = true) :
    Calls Tryd.prog 5 #[v0, v1, v2] W (TrueBelow W) := by
  obtain ⟨kind, rfl, _, _⟩ := h0.int Tryd.underlying3
  obtain ⟨a, rfl, _, ha⟩ := h1.string Tryd.underlying9
  obtain ⟨b, rfl, _, hb⟩ := h2.string Tryd.underlying9
  clear h0 h1 h2 hL hsz
  have C1 := Lib.hid (fun w => compare_any kind a b w)
  have C2 := Lib.hid (fun w => refCompare_any kind a b ha hb w)
  generalize cmpO kind (parse a.data.toList) (parse b.data.toList) = x at *
  generalize bothErr kind (parse a.data.toList) (parse b.data.toList) = y at *
  clear ha hb
  go_enter Tryd.func5, Tryd.ntmps5
  go_wp2_with fail
  refine (awake_any _).mono ?_
  rintro e w1 ⟨rfl, hb1⟩
  have HB1 := Lib.hid hb1
  have hz1 := hb1.size
  clear hb1
  go_wp2_with fail
  refine (C1.out _).mono ?_
  rintro e w2 ⟨rfl, hb2⟩
  have HB2 := Lib.hid (HB1.out.trans (hb2.mono hz1))
  have hz2 := HB2.out.size
  clear hb2
  go_wp2_with fail
  refine (C2.out _).mono ?_
  rintro e w3 ⟨rfl, hb3⟩
  have HB3 := Lib.hid (HB2.out.trans (hb3.mono hz2))
  clear hb3
  go_wp2_with fail
  go_ret
  exact ⟨rfl, HB3.out⟩
end Go.Proofs.YtbfpljlgjpmmmaaDoor
