/- The walks of AttrsFits and AttrsGlobs. -/
import Derived.Test.YthgagobdkcikiaaDoorMax
import Derived.Test.YthgagobdkcikiaaDoorRefF
namespace Go.Proofs.YthgagobdkcikiaaDoor
set_option linter.unusedSimpArgs false
set_option linter.unusedVariables false
open Go.RowKit

theorem small_str {H : Type} {s : ByteArray} {d : DataW H} {ds : List (DataW H)} (hd : d = .lit (.string s.data.toList)) (hm : d ∈ ds) (hk : Rows.uptoBulkAll ds ≤ 1048576) : s.size ≤ 1048576 := by
  have h1 : ∀ (l : List (DataW H)) x, x ∈ l → Rows.uptoBulk x ≤ Rows.uptoBulkAll l := by
    intro l
    induction l with
    | nil => intro x hx; cases hx
    | cons y l ih =>
      intro x hx
      rw [Rows.uptoBulkAll]
      rcases List.mem_cons.1 hx with rfl | hx
      · omega
      · have := ih x hx; omega
  have h2 := h1 ds d hm
  rw [hd, Rows.uptoBulk] at h2
  have : s.data.toList.length = s.size := by simp
  omega
set_option maxHeartbeats 1000000 in
set_option maxRecDepth 100000 in
theorem attrsFits_walk {H : Type} {enc : TypeId × Value → H} (W : World) {v0 v1 v2 : Value} {d0 d1 d2 : DataW H} (h0 : In enc Tryd.prog W 3 v0 d0) (h1 : In enc Tryd.prog W 9 v1 d1) (h2 : In enc Tryd.prog W 9 v2 d2)
    (hL : laidMetH Tryd.prog Rows.attrsFitsUptoRow.laid W) (hk : Rows.uptoBulkAll ([d0, d1, d2] ++ []) ≤ 1048576) (hSh : W.ShapedOpen Tryd.prog) :
    Calls Tryd.prog 4 #[v0, v1, v2] W (TrueBelow W) := by
  obtain ⟨how, rfl, e0, hw0⟩ := h0.int Tryd.underlying3
  obtain ⟨p, rfl, e1, hp⟩ := h1.string Tryd.underlying9
  obtain ⟨s, rfl, e2, hs⟩ := h2.string Tryd.underlying9
  have hp2 := small_str e1 (by simp) hk
  have hs2 := small_str e2 (by simp) hk
  have CA := Lib.hid (awake_at W hSh)
  have HSH := Lib.hid hSh
  clear hL hk hSh h0 h1 h2 e0 e1 e2 hp hs
  go_enter Tryd.func4, Tryd.ntmps4
  go_wp2_with fail
  refine CA.out.mono ?_
  rintro e w1 ⟨rfl, hb1⟩
  have C1 := Lib.hid (fits_any how p s hp2 hs2 w1 (MaxAt.at_ HSH.out hb1))
  have HB1 := Lib.hid hb1
  have hz1 := hb1.size
  clear hb1 CA
  go_wp2_with fail
  refine C1.out.mono ?_
  rintro e w2 ⟨rfl, n, rfl⟩
  have C2 := Lib.hid (refFits_any how p s hp2 hs2 (w1.drewN n))
  have HB2 : Hid (Below W.heap.size W (w1.drewN n)) := below_drewN' HB1.out n
  clear C1
  generalize fitsB how p s = x at *
  go_wp2_with fail
  refine C2.out.mono ?_
  rintro e w3 ⟨rfl, hb3⟩
  have HB3 : Hid (Below W.heap.size W w3) := HB2.out.trans (hb3.mono hz1)
  clear hb3 C2
  go_wp2_with fail
  go_ret
  exact ⟨by cases x <;> rfl, HB3.out⟩
end Go.Proofs.YthgagobdkcikiaaDoor
