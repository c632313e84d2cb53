/- The laws' walks: NamesNames, NamesNil. -/
import Derived.Test.YtdgmpickjdbhlaaNil
namespace Go.Proofs.Ytdgmpickjdbhlaa
open Go.RowKit

theorem namesNames_walk (W : World) : Calls Try.prog 3 #[] W (TrueBelow W) := by
  go_enter Try.func3, Try.ntmps3
  go_wp2_with fail
  refine (awake_any _).mono ?_
  rintro e w' ⟨rfl, hb⟩
  go_wp2_with fail
  go_ret
  exact ⟨rfl, hb⟩

theorem namesNil_walk {H : Type} {enc : TypeId × Value → H} (W : World) {v0 v1 v2 : Value} {d0 d1 d2 : DataW H} (h0 : In enc Try.prog W 9 v0 d0) (h1 : In enc Try.prog W 3 v1 d1) (h2 : In enc Try.prog W 3 v2 d2)
    (_ : (DataW.weightsEach Try.prog [9, 3, 3] [d0, d1, d2]).all (· ≤ reachBytes) = true) :
    Calls Try.prog 6 #[v0, v1, v2] W (TrueBelow W) := by
  obtain ⟨a0, rfl, rfl, w0⟩ := h0.string Try.underlying9
  obtain ⟨a1, rfl, rfl, w1⟩ := h1.int Try.underlying3
  obtain ⟨a2, rfl, rfl, w2⟩ := h2.int Try.underlying3
  clear h0 h1 h2 w0 w1 w2
  have HA := Lib.hid (awake_any W)
  go_enter Try.func6, Try.ntmps6
  go_wp2_with fail
  refine HA.out.mono ?_
  rintro e w1 ⟨rfl, hb⟩
  go_wp2_with fail
  refine (add_nil _ a0).mono ?_
  rintro e w' ⟨rfl, rfl⟩
  go_wp2_with fail
  refine (find_nil _ a0).mono ?_
  rintro e w' ⟨rfl, rfl⟩
  go_wp2_with fail
  refine (name_nil _ a1).mono ?_
  rintro e w' ⟨rfl, rfl⟩
  go_wp2_with fail
  refine (relate_nil _ a1 a2 a1).mono ?_
  rintro e w' ⟨rfl, rfl⟩
  go_wp2_with fail
  refine (relation_nil _ a1).mono ?_
  rintro e w' ⟨rfl, rfl⟩
  go_wp2_with fail
  refine (len_nil _ ).mono ?_
  rintro e w' ⟨rfl, rfl⟩
  go_wp2_with fail
  refine (rels_nil _ ).mono ?_
  rintro e w' ⟨rfl, rfl⟩
  go_wp2_with fail
  go_ret
  exact ⟨rfl, hb⟩
end Go.Proofs.Ytdgmpickjdbhlaa
