/- How many bits of a word are set: the library's count. -/
import Derived.Test.YtfnfiaonaeopkaaDoorText
import Derived.Test.YtfnfiaonaeopkaaDoorBitMath
import Derived.Laws.Bits64b
import Derived.Laws.Bits128
import Derived.IntWalk
namespace Go.Proofs.YtfnfiaonaeopkaaDoor
set_option linter.unusedSimpArgs false
set_option linter.unusedVariables false
open Go.RowKit

theorem mk85 : mk 85 8 = 6148914691236517205 := by decide +kernel
theorem mk51 : mk 51 8 = 3689348814741910323 := by decide +kernel
theorem mk15 : mk 15 8 = 1085102592571150095 := by decide +kernel
theorem add_step (a b M : Nat) (ha : a < 18446744073709551616) (hb : b < 18446744073709551616) (hM : M < 9223372036854775808) :
    IntKind.u64.wrap (bits .and .u64 (a : Int) (M : Int) + bits .and .u64 (b : Int) (M : Int)) = (((a &&& M) + (b &&& M) : Nat) : Int) := by
  rw [bits_and_u64_nat a M ha (by omega), bits_and_u64_nat b M hb (by omega), IntKind.wrap_u64]
  have h1 : a &&& M ≤ M := Nat.and_le_right
  have h2 : b &&& M ≤ M := Nat.and_le_right
  omega
theorem e1 (x : Nat) (hx : x < 18446744073709551616) :
    IntKind.u64.wrap (bits .and .u64 ((x : Int) / 2) 6148914691236517205 + bits .and .u64 (x : Int) 6148914691236517205) = ((step 1 (mk 85 8) x : Nat) : Int) := by
  rw [mk85]
  have := add_step (x / 2) x 6148914691236517205 (by omega) hx (by decide)
  rw [show (((x / 2 : Nat)) : Int) = (x : Int) / 2 by omega] at this
  exact this
theorem e2 (x : Nat) (hx : x < 18446744073709551616) :
    IntKind.u64.wrap (bits .and .u64 ((x : Int) / 4) 3689348814741910323 + bits .and .u64 (x : Int) 3689348814741910323) = ((step 2 (mk 51 8) x : Nat) : Int) := by
  rw [mk51]
  have := add_step (x / 4) x 3689348814741910323 (by omega) hx (by decide)
  rw [show (((x / 4 : Nat)) : Int) = (x : Int) / 4 by omega] at this
  exact this
theorem step_lt (s M x : Nat) (hM : M < 9223372036854775808) : step s M x < 18446744073709551616 ∧ step s M x ≤ 2 * M := by
  unfold step
  have h1 : x / 2 ^ s &&& M ≤ M := Nat.and_le_right
  have h2 : x &&& M ≤ M := Nat.and_le_right
  omega
theorem e3 (y : Nat) (hy : y ≤ 7378697629483820646) : bits .and .u64 (IntKind.u64.wrap ((y : Int) / 16 + (y : Int))) 1085102592571150095 = (((y / 16 + y) &&& mk 15 8 : Nat) : Int) := by
  rw [mk15]
  have e : IntKind.u64.wrap ((y : Int) / 16 + (y : Int)) = ((y / 16 + y : Nat) : Int) := by rw [IntKind.wrap_u64]; omega
  rw [e]
  exact bits_and_u64_nat _ _ (by omega) (by decide)
theorem e4 (v : Nat) (hv : v ≤ 578721382704613384) :
    bits .and .i64 (wrap64 (IntKind.u64.wrap (IntKind.u64.wrap (IntKind.u64.wrap ((v : Int) + (v : Int) / 256) + IntKind.u64.wrap ((v : Int) + (v : Int) / 256) / 65536) + IntKind.u64.wrap (IntKind.u64.wrap ((v : Int) + (v : Int) / 256) + IntKind.u64.wrap ((v : Int) + (v : Int) / 256) / 65536) / 4294967296))) 127 = (((fold3 v + fold3 v / 4294967296) % 128 : Nat) : Int) := by
  have a1 : IntKind.u64.wrap ((v : Int) + (v : Int) / 256) = ((v + v / 256 : Nat) : Int) := by rw [IntKind.wrap_u64]; omega
  rw [a1]
  have a2 : IntKind.u64.wrap (((v + v / 256 : Nat) : Int) + ((v + v / 256 : Nat) : Int) / 65536) = ((fold3 v : Nat) : Int) := by
    unfold fold3; rw [IntKind.wrap_u64]; omega
  rw [a2]
  have hf : fold3 v < 1180000000000000000 := by unfold fold3; omega
  have a3 : IntKind.u64.wrap ((fold3 v : Int) + (fold3 v : Int) / 4294967296) = ((fold3 v + fold3 v / 4294967296 : Nat) : Int) := by rw [IntKind.wrap_u64]; omega
  rw [a3, show wrap64 ((fold3 v + fold3 v / 4294967296 : Nat) : Int) = ((fold3 v + fold3 v / 4294967296 : Nat) : Int) by unfold wrap64; omega, i64_and127]
  omega

set_option maxRecDepth 100000 in
theorem ones_any (x : Nat) (hx : x < 18446744073709551616) (w : World) :
    Calls Tryd.prog 18 #[.int .u64 (x : Int)] w fun e w' => e = .returned (.int .i64 (pop 64 x : Nat)) ∧ w = w' := by
  have hx0 : (0 : Int) ≤ (x : Int) := by omega
  have hx1 : (x : Int) < 18446744073709551616 := by omega
  go_enter Tryd.func18, Tryd.ntmps18
  go_wp2_with fail
  go_ret
  refine ⟨?_, rfl⟩
  show Ending.returned (Value.int .i64 _) = _
  have hs1 := step_lt 1 (mk 85 8) x (by rw [mk85]; decide)
  have hs2 := step_lt 2 (mk 51 8) (step 1 (mk 85 8) x) (by rw [mk51]; decide)
  rw [e1 x hx, e2 _ hs1.1]
  have e : step 2 (mk 51 8) (step 1 (mk 85 8) x) = two 8 x := rfl
  rw [e] at *
  have hy : two 8 x ≤ 7378697629483820646 := by have := hs2.2; rw [mk51] at this; exact this
  rw [e3 _ hy]
  have eo : (two 8 x / 16 + two 8 x) &&& mk 15 8 = ones 8 x := rfl
  rw [eo]
  obtain ⟨h1, h2⟩ := ones64 x hx
  rw [e4 _ h1, h2]
end Go.Proofs.YtfnfiaonaeopkaaDoor
