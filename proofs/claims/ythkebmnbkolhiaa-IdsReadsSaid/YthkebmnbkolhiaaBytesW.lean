/- The contract of chandlerref01.Bytes: a number's bytes, in memory of the call's own. -/
import Derived.Test.YthkebmnbkolhiaaPutW
namespace Go.Proofs.Ythkebmnbkolhiaa
open Go.RowKit

theorem wrap_div (y : Nat) (h : y < 2 ^ 64) : IntKind.u64.wrap ((y : Int) / 128) = ((y / 128 : Nat) : Int) := by
  simp only [IntKind.wrap, IntKind.bits, IntKind.signed]
  simp
  omega

set_option maxHeartbeats 400000 in
theorem bytes_any (x0 : Nat) (w : World) (hx0 : x0 < 2 ^ 64) : Calls Try.prog 22 #[.int .u64 (x0 : Int)] w (PutPost w (putF 9 x0)) := by
  go_enter Try.func22, Try.ntmps22
  go_wp2
  go_loopw [0, 3] (fun x v wr => ∃ (y f : Nat) (ds : List Nat), x = .int .u64 (y : Int) ∧ y < 128 ^ (f + 1) ∧ Hid (y < 2 ^ 64) ∧ ds.length + f = 9 ∧ ds ++ putF f y = putF 9 x0 ∧
      wr.ownsRow w.heap.size 5 1 v ds.length (u8s ds) ∧ Below w.heap.size w wr) (fun x _ _ => (intOf x).toNat)
  case atStart => exact ⟨x0, 9, [], rfl, Nat.lt_of_lt_of_le hx0 (by decide), hx0, rfl, rfl, World.ownsRow_nil _ _ _ _, Below.refl _ _⟩
  case round =>
    obtain ⟨y, f, ds, rfl, hy, h64, hf, hput, hown, hbel⟩ := hrel
    have HP := Lib.hid hput
    have HF := Lib.hid hf
    clear hput hf hx0
    have hdl : ds.length ≤ 9 := by have := HF.out; omega
    have hsz := hbel.size
    by_cases h1 : y < 128
    · have h1' : ¬ (128 : Int) ≤ (y : Int) := by omega
      have HE : Hid (ds ++ [y] = putF 9 x0) := by
        have e : putF f y = [y] := by cases f <;> simp [putF, h1]
        rw [← HP.out, e]; exact rfl
      have HM := Lib.hid (show (y : Int) % 256 = (y : Int) by omega)
      clear hy
      go_wp2_with (at_builtin; go_must (refine app8 rfl _ _ rfl w.heap.size _ ds.length ds rfl (hown.alloc _) (wr.heap.size + 1) _ 1 1 [y] rfl rfl (by have := Rd.new1 wr (.int .u8 (y : Int)) 5; first | exact this | (rw [HM.out]; exact this)) (by omega) (by simp; omega) ?_); intro v2 w2 hown2 hbel2)
      go_ret
      refine ⟨_, rfl, ?_, (hbel.alloc hsz _).trans hbel2⟩
      rw [← HE.out]
      simpa using hown2
    · have h1' : (128 : Int) ≤ (y : Int) := by omega
      cases f with
      | zero => simp at hy; omega
      | succ f =>
      have hy2 : y / 128 < 128 ^ (f + 1) := by rw [Nat.div_lt_iff_lt_mul (by decide)]; rw [Nat.pow_succ] at hy; exact hy
      have HY := Lib.hid hy2
      have HE : Hid ((ds ++ [y % 128 + 128]) ++ putF f (y / 128) = putF 9 x0) := by
        have := HP.out
        rw [putF, if_neg h1] at this
        rw [← this]; simp [Hid]
      have HO := Lib.hid (show (y : Int) % 128 + 128 = ((y % 128 + 128 : Nat) : Int) by omega)
      have HW := Lib.hid (wrap_div y h64.out)
      clear hy hy2
      go_wp2_with (at_builtin; go_must (refine app8 rfl _ _ rfl w.heap.size _ ds.length ds rfl (hown.alloc _) (wr.heap.size + 1) _ 1 1 [y % 128 + 128] rfl rfl (by have := Rd.new1 wr (.int .u8 ((y % 128 + 128 : Nat) : Int)) 5; first | exact this | (rw [HO.out]; exact this)) (by omega) (by simp; omega) ?_); intro v2 w2 hown2 hbel2)
      go_roundw
      case rel =>
        go_light
        refine ⟨y / 128, f, ds ++ [y % 128 + 128], by rw [HW.out], HY.out, by have := h64.out; show y / 128 < 2 ^ 64; omega, ?_, HE.out, ?_, (hbel.alloc hsz _).trans hbel2⟩
        · have := HF.out; simp; omega
        · simpa [Nat.add_assoc] using hown2
      case measure => go_light; rw [HW.out]; simp only [intOf]; omega
end Go.Proofs.Ythkebmnbkolhiaa
