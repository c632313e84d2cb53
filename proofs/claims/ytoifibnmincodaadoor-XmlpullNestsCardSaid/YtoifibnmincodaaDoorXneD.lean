/- XmlpullNests: the law at what came in. -/
import Derived.Test.YtoifibnmincodaaDoorXneC
namespace Go.Proofs.YtoifibnmincodaaDoor
set_option linter.unusedSimpArgs false
set_option linter.unusedVariables false
open Go.RowKit

theorem xmlpullNests_walk {H : Type} {enc : TypeId × Value → H} (W : World) {v0 : Value} {d0 : DataW H} (h0 : In enc Tryd.prog W 9 v0 d0)
    (hL : laidMetH Tryd.prog Rows.xmlpullNestsRow.laid W) (hsz : (DataW.weightsEach Tryd.prog [9] [d0]).all (· ≤ reachBytes) = true) (hSh : W.ShapedOpen Tryd.prog) :
    Calls Tryd.prog 3 #[v0] W (TrueBelow W) := by
  obtain ⟨s, rfl, -, -⟩ := h0.string Tryd.underlying9
  rw [MakeChecks.laidMetH_plain _ _ _ (by kernel_rfl)] at hL
  have hE := xenv_of hL (by simp [Rows.xmlpullNestsRow]) (by simp [Rows.xmlpullNestsRow]) hSh
  have hs : mkS s.data.toList = s := s_ext (by rw [mkS_list])
  rw [← hs]
  exact nests_law _ W hE
end Go.Proofs.YtoifibnmincodaaDoor
