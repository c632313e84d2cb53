/- The calls whose answers the document fixes come out so: chandlerlaw03.awake. -/
import Derived.Test.YtbfpljlgjpmmmaaDoorMeet
namespace Go.Proofs.YtbfpljlgjpmmmaaDoor
set_option linter.unusedSimpArgs false
set_option linter.unusedVariables false
open Go.RowKit

theorem wake_parse : parse [50, 58, 49, 46, 48, 45, 114, 99, 49, 45, 51] = some ⟨[50], [49, 46, 48, 45, 114, 99, 49], [51]⟩ := by rfl
theorem wake_c1 : cmpO 1 (parse [49, 46, 49, 48]) (parse [49, 46, 57]) = 1 := by decide +kernel
theorem wake_e1 : bothErr 1 (parse [49, 46, 49, 48]) (parse [49, 46, 57]) = 0 := by decide +kernel
theorem wake_c2 : cmpO 2 (parse [49, 46, 48, 126, 114, 99, 49]) (parse [49, 46, 48]) = -1 := by decide +kernel
theorem wake_e2 : bothErr 2 (parse [49, 46, 48, 126, 114, 99, 49]) (parse [49, 46, 48]) = 0 := by decide +kernel
theorem wake_m : meetB 1 4 1 (parse [50, 46, 48]) (parse [49, 46, 48]) = false := by decide +kernel
theorem wake_f : meetE 1 4 1 (parse [50, 46, 48]) (parse [49, 46, 48]) = 0 := by decide +kernel

set_option maxHeartbeats 1000000 in
set_option maxRecDepth 100000 in
theorem awake_any (w0 : World) : Calls Tryd.prog 11 #[] w0 (TrueBelow w0) := by
  have P1 := Lib.hid (fun w => parse_any ⟨#[50, 58, 49, 46, 48, 45, 114, 99, 49, 45, 51]⟩ w)
  have P2 := Lib.hid (fun w => compare_any 1 ⟨#[49, 46, 49, 48]⟩ ⟨#[49, 46, 57]⟩ w)
  have P3 := Lib.hid (fun w => compare_any 2 ⟨#[49, 46, 48, 126, 114, 99, 49]⟩ ⟨#[49, 46, 48]⟩ w)
  have P4 := Lib.hid (fun w => meets_any 1 4 1 ⟨#[50, 46, 48]⟩ ⟨#[49, 46, 48]⟩ w)
  rw [wake_parse] at P1
  rw [wake_c1, wake_e1] at P2
  rw [wake_c2, wake_e2] at P3
  rw [wake_m, wake_f] at P4
  change Hid (∀ w : World, Calls Tryd.prog 12 #[.string ⟨#[50, 58, 49, 46, 48, 45, 114, 99, 49, 45, 51]⟩] w fun e w' => e = .returned (.tuple #[.agg #[.string ⟨#[50]⟩, .string ⟨#[49, 46, 48, 45, 114, 99, 49]⟩, .string ⟨#[51]⟩], .int .i64 0]) ∧ Below w.heap.size w w') at P1
  go_enter Tryd.func11, Tryd.ntmps11
  go_wp2_with fail
  refine (P1.out _).mono ?_
  rintro e w1 ⟨rfl, hb1⟩
  have HB1 := Lib.hid hb1
  have hz1 := hb1.size
  clear hb1
  go_wp2_with fail
  refine (P2.out _).mono ?_
  rintro e w2 ⟨rfl, hb2⟩
  have K2 := Lib.hid ((Blk.new w1 24 #[Value.string ⟨#[50]⟩, .string ⟨#[49, 46, 48, 45, 114, 99, 49]⟩, .string ⟨#[51]⟩]).below hb2 (by simp))
  have HB2 : Hid (Below w0.heap.size w0 w2) := (HB1.out.alloc hz1 _).trans (hb2.mono (by simp; omega))
  have hz2 := HB2.out.size
  clear hb2
  go_wp2_with fail
  refine (P3.out _).mono ?_
  rintro e w3 ⟨rfl, hb3⟩
  have K3 := Lib.hid (K2.out.below hb3 K2.out.lt)
  have HB3 : Hid (Below w0.heap.size w0 w3) := HB2.out.trans (hb3.mono hz2)
  have hz3 := HB3.out.size
  clear hb3
  go_wp2_with fail
  refine (P4.out _).mono ?_
  rintro e w4 ⟨rfl, hb4⟩
  have K4 := Lib.hid (K3.out.below hb4 K3.out.lt)
  have HB4 : Hid (Below w0.heap.size w0 w4) := HB3.out.trans (hb4.mono hz3)
  have c0 := K4.out.cell 0
  have c1 := K4.out.cell 1
  have c2 := K4.out.cell 2
  clear hb4
  go_wp2_with fail
  go_ret
  exact ⟨rfl, HB4.out⟩
end Go.Proofs.YtbfpljlgjpmmmaaDoor
