/- XmlpullSteps: the law at what came in. -/
import Derived.Test.YtchkjknpmpbfhaaDoorXstC
namespace Go.Proofs.YtchkjknpmpbfhaaDoor
set_option linter.unusedSimpArgs false
set_option linter.unusedVariables false
open Go.RowKit

theorem xmlpullSteps_walk {H : Type} {enc : TypeId × Value → H} (W : World) {v0 v1 : Value} {d0 d1 : DataW H} (h0 : In enc Tryd.prog W 9 v0 d0) (h1 : In enc Tryd.prog W 3 v1 d1)
    (hL : laidMetH Tryd.prog Rows.xmlpullStepsRow.laid W) (hsz : (DataW.weightsEach Tryd.prog [9, 3] [d0, d1]).all (· ≤ reachBytes) = true) (hSh : W.ShapedOpen Tryd.prog) :
    Calls Tryd.prog 4 #[v0, v1] W (TrueBelow W) := by
  obtain ⟨s, rfl, -, -⟩ := h0.string Tryd.underlying9
  obtain ⟨n, rfl, -, hwf⟩ := h1.int Tryd.underlying3
  rw [MakeChecks.laidMetH_plain _ _ _ (by kernel_rfl)] at hL
  have hE := xenv_of hL (by simp [Rows.xmlpullStepsRow]) (by simp [Rows.xmlpullStepsRow]) hSh
  simp [Lit.wf, IntKind.min, IntKind.max, IntKind.signed, IntKind.bits] at hwf
  have hs : mkS s.data.toList = s := s_ext (by rw [mkS_list])
  rw [← hs]
  by_cases hl : 40000 < s.data.toList.length
  · exact steps_long _ hl n W hE
  · exact steps_short _ hl n (by omega) (by omega) W hE
end Go.Proofs.YtchkjknpmpbfhaaDoor
