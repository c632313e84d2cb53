/- IdsBits: what its row lists; the walk as the card asks it. -/
import Derived.Test.YtfnfiaonaeopkaaDoorLawB
import Derived.Test.YtfnfiaonaeopkaaDoorRows
import Derived.Stop.LaidErr
import Derived.MakeChecks
namespace Go.Proofs.YtfnfiaonaeopkaaDoor
set_option linter.unusedSimpArgs false
set_option linter.unusedVariables false
open Go.RowKit

/-- The list of a row gives the library's table. -/
theorem tabled_of {W : World} {rest : List (String × DataW Unit)} (h : laidMet Tryd.prog (("math/bits.deBruijn64tab", Rows.laid_math_bits_deBruijn64tab) :: rest) W) : Tabled W := by
  have e : (Rows.laid_math_bits_deBruijn64tab : DataW Unit) = Lib.tabData .u8 (Lib.deBruijn64tab.map fun n : Nat => (n : Int)) := by kernel_rfl
  rw [e] at h
  have hT := Lib.tabIs_of_head (g := 0) (t := 55) (e := 5) (n := 64) (by kernel_rfl) (by kernel_rfl) Tryd.underlying55 Tryd.underlying5 (by kernel_rfl) (by kernel_rfl) h
  intro j hj
  have hc := hT.cell (g := 0) (by kernel_rfl) j (by rw [List.length_map]; exact hj)
  rw [hc]
  simp only [List.getD_eq_getElem?_getD, List.getElem?_map]
  rw [List.getElem?_eq_getElem hj]
  rfl
theorem idsBits_tabled {W : World} (hL : laidMetH Tryd.prog Rows.idsBitsRow.laid W) : Tabled W := by
  rw [MakeChecks.laidMetH_plain _ _ _ (by kernel_rfl)] at hL
  exact tabled_of hL
theorem idsBits_law {H : Type} {enc : TypeId × Value → H} (W : World) {v0 v1 : Value} {d0 d1 : DataW H} (h0 : In enc Tryd.prog W 22 v0 d0) (h1 : In enc Tryd.prog W 3 v1 d1)
    (hL : laidMetH Tryd.prog Rows.idsBitsRow.laid W) : Calls Tryd.prog 3 #[v0, v1] W (TrueBelow W) := idsBits_walk W h0 h1 (idsBits_tabled hL)
end Go.Proofs.YtfnfiaonaeopkaaDoor
