/- The first of two numbers that is not nought: cmp.Or. -/
import Derived.Test.YtbfpljlgjpmmmaaDoorPred
namespace Go.Proofs.YtbfpljlgjpmmmaaDoor
set_option linter.unusedSimpArgs false
set_option linter.unusedVariables false
open Go.RowKit

set_option maxHeartbeats 400000 in
set_option maxRecDepth 100000 in
theorem or_any (g : Nat) (a b : Int) (w : World) (h0 : w.cell? ⟨g, 0, none⟩ = some (.int .i64 a)) (h1 : w.cell? ⟨g, 1, none⟩ = some (.int .i64 b)) :
    Calls Tryd.prog 25 #[.slice (some ⟨g, 0, none⟩) 2 2] w fun e w' => e = .returned (.int .i64 (thenC a b)) ∧ w = w' := by
  have HT := Lib.hid (show thenC a b = if a = 0 then b else a from rfl)
  generalize thenC a b = t at *
  by_cases ha : a = 0
  · rw [if_pos ha] at HT
    subst ha
    by_cases hb : b = 0
    · subst hb
      obtain rfl : t = 0 := HT.out
      clear HT
      go_enter Tryd.func25, Tryd.ntmps25
      go_wp2_with fail
      go_loop [8] (fun n => n = .int .i64 0 ∨ n = .int .i64 1 ∨ n = .int .i64 2) (fun n => 2 - (intOf n).toNat)
      case atStart => exact .inl rfl
      case round =>
        rcases hrel with rfl | rfl | rfl
        · go_wp2_with fail
          go_round
          case rel => exact .inr (.inl rfl)
          case measure => simp [intOf]
        · go_wp2_with fail
          go_round
          case rel => exact .inr (.inr rfl)
          case measure => simp [intOf]
        · go_wp2_with fail
          go_ret
          exact ⟨rfl, rfl⟩
    · have hb1 : (b == 0) = false := by simpa using hb
      have hb2 : (b != 0) = true := by simpa using hb
      obtain rfl : t = b := HT.out
      clear HT hb
      go_enter Tryd.func25, Tryd.ntmps25
      go_wp2_with fail
      go_loop [8] (fun n => n = .int .i64 0 ∨ n = .int .i64 1) (fun n => 2 - (intOf n).toNat)
      case atStart => exact .inl rfl
      case round =>
        rcases hrel with rfl | rfl
        · go_wp2_with fail
          go_round
          case rel => exact .inr rfl
          case measure => simp [intOf]
        · go_wp2_with fail
          go_ret
          exact ⟨rfl, rfl⟩
  · rw [if_neg ha] at HT
    have ha1 : (a == 0) = false := by simpa using ha
    have ha2 : (a != 0) = true := by simpa using ha
    obtain rfl : t = a := HT.out
    clear HT ha
    go_enter Tryd.func25, Tryd.ntmps25
    go_wp2_with fail
    go_loop [8] (fun n => n = .int .i64 0) (fun n => 2 - (intOf n).toNat)
    case atStart => exact rfl
    case round =>
      subst hrel
      go_wp2_with fail
      go_ret
      exact ⟨rfl, rfl⟩
end Go.Proofs.YtbfpljlgjpmmmaaDoor
