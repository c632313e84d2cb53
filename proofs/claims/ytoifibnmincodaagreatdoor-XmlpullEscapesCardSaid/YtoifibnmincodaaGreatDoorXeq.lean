/- Two attributes held against each other. -/
import Derived.Test.YtoifibnmincodaaGreatDoorXj
import Derived.DeepKeys
namespace Go.Proofs.YtoifibnmincodaaGreatDoor
set_option linter.unusedSimpArgs false
set_option linter.unusedVariables false
open Go.RowKit
theorem part0 (x y : ByteArray) (w : World) : (part 9 #[.string x, .string y] 0).run Tryz.prog w = .ok (.string x) w := by kernel_rfl
theorem part1 (x y : ByteArray) (w : World) : (part 9 #[.string x, .string y] 1).run Tryz.prog w = .ok (.string y) w := by kernel_rfl
theorem eqlS (x y : ByteArray) (w : World) : (Op.equalIn 9999 9 (.string x) (.string y)).run Tryz.prog w = .ok (x == y) w := by
  unfold Op.equalIn
  simp [run_underlying Tryz.underlying9, Result.andThen]
theorem ba_beq (a b : ByteArray) : (a == b) = decide (a = b) := by
  obtain ⟨⟨l⟩⟩ := a
  obtain ⟨⟨m⟩⟩ := b
  show ((⟨l⟩ : Array UInt8) == ⟨m⟩) = _
  rw [Bool.eq_iff_iff]
  simp
theorem eqlA (a b c d : ByteArray) (w : World) : (Op.equalIn 10000 29 (.agg #[.string a, .string b]) (.agg #[.string c, .string d])).run Tryz.prog w = .ok (decide (a = c) && decide (b = d)) w := by
  have p0 := part0
  have p1 := part1
  have es := eqlS
  unfold Op.equalIn
  by_cases h1 : a = c <;> by_cases h2 : b = d <;> simp [run_underlying Tryz.underlying29, Result.andThen, p0, p1, es, ba_beq, h1, h2]
end Go.Proofs.YtoifibnmincodaaGreatDoor
