/- The walk of EvrParses. -/
import Derived.Test.YtbfpljlgjpmmmaaDoorAwake
import Derived.Test.YtbfpljlgjpmmmaaDoorRefE
namespace Go.Proofs.YtbfpljlgjpmmmaaDoor
set_option linter.unusedSimpArgs false
set_option linter.unusedVariables false
open Go.RowKit
set_option maxHeartbeats 4000000 in
set_option maxRecDepth 1000000 in
theorem evrParses_walk {H : Type} {enc : TypeId × Value → H} (W : World) {v0 : Value} {d0 : DataW H} (h0 : In enc Tryd.prog W 9 v0 d0)
    (hL : laidMetH Tryd.prog Rows.evrParsesRow.laid W) (hsz : (DataW.weightsEach Tryd.prog [9] [d0]).all (· ≤ reachBytes) = true) :
    Calls Tryd.prog 4 #[v0] W (TrueBelow W) := by
  obtain ⟨a, rfl, _, ha⟩ := h0.string Tryd.underlying9
  clear h0 hL hsz
  have C1 := Lib.hid (fun w => parse_any a w)
  have C2 := Lib.hid (fun w => refParse_any a ha w)
  unfold PPost at C2
  obtain ⟨e1, v1, r1, hA⟩ := evr_agg (parse a.data.toList)
  generalize errV (parse a.data.toList) = x at *
  rw [hA] at C1 C2
  clear hA ha
  go_enter Tryd.func4, Tryd.ntmps4
  go_wp2_with fail
  refine (awake_any _).mono ?_
  rintro e w1 ⟨rfl, hb1⟩
  have HB1 := Lib.hid hb1
  have hz1 := hb1.size
  clear hb1
  go_wp2_with fail
  refine (C1.out _).mono ?_
  rintro e w2 ⟨rfl, hb2⟩
  have HB2 := Lib.hid (HB1.out.trans (hb2.mono hz1))
  have hz2 := HB2.out.size
  clear hb2
  go_wp2_with fail
  refine (C2.out _).mono ?_
  rintro e w3 ⟨rfl, hb3⟩
  have K2 := Lib.hid ((Blk.new w2 24 #[Value.string e1, .string v1, .string r1]).below hb3 (by simp))
  have HB3 : Hid (Below W.heap.size W w3) := (HB2.out.alloc hz2 _).trans (hb3.mono (by simp; omega))
  have hz3 := HB3.out.size
  have hl2 := K2.out.lt
  have c0 : w3.cell? ⟨w2.heap.size, 0, none⟩ = some (.string e1) := K2.out.cell 0
  have c1 : w3.cell? ⟨w2.heap.size, 1, none⟩ = some (.string v1) := K2.out.cell 1
  have c2 : w3.cell? ⟨w2.heap.size, 2, none⟩ = some (.string r1) := K2.out.cell 2
  have n2 : w2.heap.size ≠ w3.heap.size := by omega
  clear hb3 C1 C2
  go_wp2_with fail
  go_ret
  exact ⟨rfl, (HB3.out.alloc hz3 _)⟩
end Go.Proofs.YtbfpljlgjpmmmaaDoor
