/- Which bytes a version may have. -/
import Derived.Test.YtciogfpejenedaaGreatDoorNum
namespace Go.Proofs.YtciogfpejenedaaGreatDoor
set_option linter.unusedSimpArgs false
set_option linter.unusedVariables false
open Go.RowKit

theorem u8_back (c : UInt8) : ((c.toNat : Int)).toNat.toUInt8 = c := by simp
theorem indexB_ge {l : List UInt8} {c : UInt8} : decide (0 ≤ Lib.indexByte l c) = decide (c ∈ l) := by
  by_cases h : c ∈ l
  · rw [index_yes h]; simp [h]
  · rw [index_no h]; simp [h]
set_option maxRecDepth 100000 in
theorem mayBe_any : IsPred 123 isMay := by
  intro c w
  have CD := Lib.hid (isDigit_any c)
  have CL := Lib.hid (isLetter_any c)
  have CI := Lib.hid (fun w => Tryz.strings_IndexByte ⟨#[46, 95, 43, 126, 94, 45, 58]⟩ (c.toNat : Int) w)
  rw [u8_back] at CI
  have hx := @indexB_ge [46, 95, 43, 126, 94, 45, 58] c
  have hm : isMay c = (isDg c || isLt c || decide (c ∈ ([46, 95, 43, 126, 94, 45, 58] : List UInt8))) := rfl
  rw [← hx] at hm
  have HM := Lib.hid hm
  clear hx hm
  change Hid (∀ w, Calls Tryz.prog 124 #[.string ⟨#[46, 95, 43, 126, 94, 45, 58]⟩, .int .u8 (c.toNat : Int)] w fun e w' => e = .returned (.int .i64 (Lib.indexByte [46, 95, 43, 126, 94, 45, 58] c)) ∧ w' = w) at CI
  generalize Lib.indexByte [46, 95, 43, 126, 94, 45, 58] c = x at *
  generalize isDg c = d at *
  generalize isLt c = l at *
  cases d <;> cases l
  all_goals
    go_enter Tryz.func123, Tryz.ntmps123
    go_wp2_with fail
    refine (CD.out _).mono ?_
    rintro e w' ⟨rfl, rfl⟩
    go_wp2_with fail
    try
      refine (CL.out _).mono ?_
      rintro e w' ⟨rfl, rfl⟩
      go_wp2_with fail
    try
      refine (CI.out _).mono ?_
      rintro e w' ⟨rfl, rfl⟩
      go_wp2_with fail
  all_goals
    go_ret
    refine ⟨ret_bool ?_, rfl⟩
    rw [HM.out]
    first | rfl | simp

end Go.Proofs.YtciogfpejenedaaGreatDoor
