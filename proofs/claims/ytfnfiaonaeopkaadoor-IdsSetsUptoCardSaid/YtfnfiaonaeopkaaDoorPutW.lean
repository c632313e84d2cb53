/- The contract of ids.Put: the bytes as they came, and the number's behind them, in memory of the call's own. -/
import Derived.Test.YtfnfiaonaeopkaaDoorWords
namespace Go.Proofs.YtfnfiaonaeopkaaDoor.old
set_option linter.unusedSimpArgs false
set_option linter.unusedVariables false
open Go.RowKit

def PutPost (w : World) (bs : List Nat) (e : Ending) (w' : World) : Prop :=
  ∃ v, e = .returned v ∧ w'.ownsRow w.heap.size 5 1 v bs.length (u8s bs) ∧ Below w.heap.size w w'

theorem or128 (x : Nat) : bits .or .u8 ((x : Int) % 256) 128 = ((x % 128 + 128 : Nat) : Int) := by
  have h : ∀ y, y < 256 → y ||| 128 = y % 128 + 128 := by decide +kernel
  rw [show ((x : Int) % 256) = ((x % 256 : Nat) : Int) from by omega, show (128 : Int) = ((128 : Nat) : Int) from rfl, u8_or_nat _ _ (by omega) (by omega), h _ (by omega)]
  omega

set_option maxHeartbeats 400000 in
theorem put_any (A : Option Addr) (n c B x0 : Nat) (bs : List Nat) (w : World) (hl : bs.length = n) (hn : n + 10 ≤ 140737488355328) (hr : Rd w B A (u8s bs)) (hB : B ≤ w.heap.size) (hx0 : x0 < 128 ^ 10) :
    Calls Tryd.prog 16 #[.slice A n c, .int .u64 (x0 : Int)] w (PutPost w (bs ++ putF 9 x0)) := by
  obtain ⟨i0, hi, hz0, hz1, hz2⟩ := info_parts info5
  go_enter Tryd.func16, Tryd.ntmps16
  go_wp2_with (first
    | (at_make; refine wpList_make_own _ rfl _ _ 45 rfl w.heap.size 5 i0 (.int .u8 0) 1 Tryd.underlying45 hi hz0 hz1 .i64 .i64 _ (n + 10) rfl rfl (by omega) (by rw [hz2]; omega) (by unfold maxLen; omega) (Nat.le_refl _) ?_; intro w0 hown0 hgrow0)
    | (at_builtin; go_must (refine app8 rfl _ _ rfl w.heap.size _ 0 [] rfl hown0 B A n c bs rfl hl (hr.below ((Below.refl w.heap.size w).grown hgrow0 (Nat.le_refl _) (fun k h => by cases h)) hB) (by omega) hgrow0.size ?_); intro v w1 hown1 hb1))
  have hb0 : Below w.heap.size w w1 := ((Below.refl w.heap.size w).grown hgrow0 (Nat.le_refl _) (fun k h => by cases h)).trans hb1
  clear hb1 hown0 hgrow0 hi hz0 hz1 hz2 hr
  simp only [Nat.zero_add, List.nil_append] at hown1
  go_loopw [1, 5] (fun x v wr => ∃ (y f : Nat) (ds : List Nat), x = .int .u64 (y : Int) ∧ y < 128 ^ (f + 1) ∧ ds.length + f = 9 ∧ ds ++ putF f y = putF 9 x0 ∧
      wr.ownsRow w.heap.size 5 1 v (n + ds.length) (u8s (bs ++ ds)) ∧ Below w.heap.size w wr) (fun x _ _ => (intOf x).toNat)
  case atStart => exact ⟨x0, 9, [], rfl, hx0, rfl, rfl, by simpa using hown1, hb0⟩
  case round =>
    obtain ⟨y, f, ds, rfl, hy, hf, hput, hown, hbel⟩ := hrel
    have HP := Lib.hid hput
    have HF := Lib.hid hf
    have HL := Lib.hid hl
    clear hput hf hl hown1 hb0 hx0
    have hdl : ds.length ≤ 9 := by have := HF.out; omega
    have hsz := hbel.size
    by_cases h1 : y < 128
    · have h1' : ¬ (128 : Int) ≤ (y : Int) := by omega
      have HE : Hid (ds ++ [y] = putF 9 x0) := by
        have e : putF f y = [y] := by cases f <;> simp [putF, h1]
        rw [← HP.out, e]; exact rfl
      have hm : (y : Int) % 256 = (y : Int) := by omega
      have HM := Lib.hid hm
      clear hm hy
      go_wp2_with (at_builtin; go_must (refine app8 rfl _ _ rfl w.heap.size _ (n + ds.length) (bs ++ ds) rfl (hown.alloc _) (wr.heap.size + 1) _ 1 1 [y] rfl rfl (by have := Rd.new1 wr (.int .u8 (y : Int)) 5; first | exact this | (rw [HM.out]; exact this)) (by omega) (by simp; omega) ?_); intro v2 w2 hown2 hbel2)
      go_ret
      refine ⟨_, rfl, ?_, (hbel.alloc hsz _).trans hbel2⟩
      rw [← HE.out, ← List.append_assoc]
      have := HL.out
      simpa [this, Nat.add_assoc] using hown2
    · have h1' : (128 : Int) ≤ (y : Int) := by omega
      have HO := Lib.hid (or128 y)
      cases f with
      | zero => simp at hy; omega
      | succ f =>
      have hy2 : y / 128 < 128 ^ (f + 1) := by rw [Nat.div_lt_iff_lt_mul (by decide)]; rw [Nat.pow_succ] at hy; exact hy
      have HY := Lib.hid hy2
      have HE : Hid ((ds ++ [y % 128 + 128]) ++ putF f (y / 128) = putF 9 x0) := by
        have := HP.out
        rw [putF, if_neg h1] at this
        rw [← this]; simp [Hid]
      clear hy hy2
      go_wp2_with (at_builtin; go_must (refine app8 rfl _ _ rfl w.heap.size _ (n + ds.length) (bs ++ ds) rfl (hown.alloc _) (wr.heap.size + 1) _ 1 1 [y % 128 + 128] rfl rfl (by rw [HO.out]; exact Rd.new1 wr (.int .u8 ((y % 128 + 128 : Nat) : Int)) 5) (by omega) (by simp; omega) ?_); intro v2 w2 hown2 hbel2)
      go_roundw
      case rel =>
        go_light
        refine ⟨y / 128, f, ds ++ [y % 128 + 128], ?_, HY.out, ?_, HE.out, ?_, (hbel.alloc hsz _).trans hbel2⟩
        · rfl
        · have := HF.out; simp; omega
        · simpa [Nat.add_assoc] using hown2
      case measure => go_light; simp only [intOf]; omega
end Go.Proofs.YtfnfiaonaeopkaaDoor.old
