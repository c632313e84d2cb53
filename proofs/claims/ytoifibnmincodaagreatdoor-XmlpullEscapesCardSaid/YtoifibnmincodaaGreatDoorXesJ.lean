/- XmlpullEscapes: the law at what came in. -/
import Derived.Test.YtoifibnmincodaaGreatDoorXesI
namespace Go.Proofs.YtoifibnmincodaaGreatDoor
set_option linter.unusedSimpArgs false
set_option linter.unusedVariables false
open Go.RowKit

theorem pow_head {W : World} {a b : String × DataW Unit} {r : List (String × DataW Unit)} (hL : laidMet Tryz.prog (a :: b :: ("internal/strconv.uint64pow10", (Rows.laid_internal_strconv_uint64pow10 : DataW Unit)) :: r) W) : PowA W := by
  have h2 := hL.tail.tail
  have e : (Rows.laid_internal_strconv_uint64pow10 : DataW Unit) = Lib.tabData .u64 Lib.pow10Tab := by kernel_rfl
  rw [e] at h2
  exact Lib.tabIs_of_head (g := 3) (t := 176) (e := 145) (n := 20) (by kernel_rfl) (by kernel_rfl) Tryz.underlying176 Tryz.underlying145 (by kernel_rfl) (by kernel_rfl) h2
theorem pow_below {W : World} (h : PowA W) : ∀ w', Below W.heap.size W w' → PowA w' := fun w' hb => Lib.tabBelow_of_tabIs h w' hb
theorem mk_of (s : ByteArray) : mkS s.data.toList = s := s_ext (by rw [mkS_list])
theorem xmlpullEscapes_walk {H : Type} {enc : TypeId × Value → H} (W : World) {v0 v1 : Value} {d0 d1 : DataW H} (h0 : In enc Tryz.prog W 9 v0 d0) (h1 : In enc Tryz.prog W 9 v1 d1)
    (hL : laidMetH Tryz.prog Rows.xmlpullEscapesRow.laid W) (hsz : (DataW.weightsEach Tryz.prog [9, 9] [d0, d1]).all (· ≤ reachBytes) = true) (hSh : W.ShapedOpen Tryz.prog) :
    Calls Tryz.prog 3 #[v0, v1] W (TrueBelow W) := by
  obtain ⟨s0, rfl, -, -⟩ := h0.string Tryz.underlying9
  obtain ⟨s1, rfl, -, -⟩ := h1.string Tryz.underlying9
  rw [MakeChecks.laidMetH_plain _ _ _ (by kernel_rfl)] at hL
  have hE := xenv_of hL (by simp [Rows.xmlpullEscapesRow]) (by simp [Rows.xmlpullEscapesRow]) hSh
  have hP := pow_below (pow_head hL)
  rw [← mk_of s0, ← mk_of s1]
  exact escapes_law _ _ W hE hP
end Go.Proofs.YtoifibnmincodaaGreatDoor
