/- The lowest bit that is set: the library's count of noughts, at its own table. -/
import Derived.Test.YtfnfiaonaeopkaaDoorCount
import Derived.Shelf.Spec.TrailingZeros
namespace Go.Proofs.YtfnfiaonaeopkaaDoor
set_option linter.unusedSimpArgs false
set_option linter.unusedVariables false
open Go.RowKit

/-- The library's table lies where it was laid. -/
def Tabled (w : World) : Prop := TabAt 0 Lib.deBruijn64tab w
theorem Tabled.below {w w' : World} {B : Nat} (h : Tabled w) (hb : Below B w w') (hB : 0 < B) : Tabled w' := fun j hj => (hb.cell (p := ⟨_, j, none⟩) hB).trans (h j hj)

set_option maxHeartbeats 1000000 in
theorem tz_core (x k idx : Nat) (w : World) (hx0 : ((x : Int) == 0) = false)
    (key : IntKind.u64.wrap (bits .and .u64 (x : Int) (IntKind.u64.wrap (-(x : Int))) * 285870213051353865) / 288230376151711744 = (idx : Int))
    (hi : idx < 64) (hk : k < 64) (hcell : w.cell? ⟨0, idx, none⟩ = some (.int .u8 k)) :
    Calls Tryd.prog 20 #[.int .u64 (x : Int)] w fun e w' => e = .returned (.int .i64 k) ∧ w = w' := by
  go_enter Tryd.func20, Tryd.ntmps20
  go_wp2_with (simp only [key])
  go_ret
  exact ⟨rfl, rfl⟩
theorem tz_any (x : Nat) (hx : x < 18446744073709551616) (h0 : x ≠ 0) (w : World) (hT : Tabled w) :
    Calls Tryd.prog 20 #[.int .u64 (x : Int)] w fun e w' => e = .returned (.int .i64 (Lib.ctz 64 x : Nat)) ∧ w = w' := by
  obtain ⟨hlow, hk⟩ := Lib.lowest_bit 64 x h0 hx
  obtain ⟨hi, htab⟩ := Lib.deBruijn64_at _ hk
  have hcell := hT _ hi
  rw [htab] at hcell
  exact tz_core x _ _ w (by simp; omega) (tz64_key x _ hx h0 hlow) hi hk hcell
/-- The lowest one, and what is left. -/
theorem tz_bl (x k : Nat) (hx : x < 18446744073709551616) (h0 : x ≠ 0) : bl 64 k x = (k + Lib.ctz 64 x) :: bl 64 k (x &&& (x - 1)) ∧ (x &&& (x - 1)) < x ∧ Lib.ctz 64 x < 64 := by
  obtain ⟨m, hm, hc⟩ := Lib.ctzFrom_spec 64 x (by omega) hx
  have e : Lib.ctz 64 x = Lib.ctzFrom 64 x := by unfold Lib.ctz; rw [if_neg h0]
  rw [e]
  generalize Lib.ctzFrom 64 x = c at *
  have hand := low_and c m
  rw [← hm] at hand
  rw [hand]
  refine ⟨?_, ?_, hc⟩
  · conv => lhs; rw [hm]
    exact bl_low 64 k c m hc
  · have hp : 0 < 2 ^ c := Nat.two_pow_pos c
    rw [hm, Nat.pow_succ, Nat.mul_assoc]
    exact Nat.mul_lt_mul_of_pos_left (by omega) hp
end Go.Proofs.YtfnfiaonaeopkaaDoor
