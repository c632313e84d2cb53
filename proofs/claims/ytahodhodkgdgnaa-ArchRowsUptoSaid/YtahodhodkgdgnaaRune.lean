/- The library looks for a rune beyond the first 128 in the text of > and :, and finds none. -/
import Derived.Test.YtahodhodkgdgnaaName
import Derived.Test.YtahodhodkgdgnaaShelf
import Derived.Test.YtahodhodkgdgnaaScope
import Derived.Laws.RangeAny
import Derived.Laws.Runes
import Derived.Deep.LoopGhost
import Derived.WalkMore
namespace Go.Proofs.Ytahodhodkgdgnaa
set_option linter.unusedSimpArgs false
set_option linter.unusedVariables false
open Go.RowKit

def seps : ByteArray := ⟨#[62, 58]⟩
set_option maxRecDepth 1000000 in
theorem rune_error (w : World) :
    Calls Try.prog 24 #[.string seps, .int .i32 65533] w fun e w' => e = .returned (.int .i64 (-1)) ∧ Below w.heap.size w w' := by
  unfold seps
  have n0 := fun ty => run_next_ascii (P := Try.prog) w ⟨#[62, 58]⟩ 0 ty (by decide) (by decide)
  have n1 := fun ty => run_next_ascii (P := Try.prog) w ⟨#[62, 58]⟩ 1 ty (by decide) (by decide)
  have n2 := fun ty => run_next_end (P := Try.prog) w ⟨#[62, 58]⟩ 2 ty (by decide)
  go_enter Try.func24, Try.ntmps24
  go_wp2_with fail
  go_loopg [5, 6] 2 (fun g _ _ wx => ∃ i : Nat, i + g = 2 ∧ wx = w.iter ⟨#[62, 58]⟩ i)
  case atStart => exact ⟨0, rfl, rfl⟩
  case round =>
    obtain ⟨i, hi, rfl⟩ := hrel
    match gk, hi with
    | 0, hi =>
      obtain rfl : i = 2 := by omega
      go_wp2_with fail
      go_ret
      exact ⟨rfl, (Below.refl _ _).alloc (Nat.le_refl _) _⟩
    | 1, hi =>
      obtain rfl : i = 1 := by omega
      go_wp2_with fail
      go_roundg 0
      case measure => omega
      case rel => exact ⟨2, rfl, rfl⟩
    | 2, hi =>
      obtain rfl : i = 0 := by omega
      go_wp2_with fail
      go_roundg 1
      case measure => omega
      case rel => exact ⟨1, rfl, rfl⟩

set_option maxHeartbeats 1000000 in
set_option maxRecDepth 1000000 in
theorem rune_bad (r : Int) (h : 128 ≤ r) (h2 : r ≤ 2147483647) (he : r ≠ 65533) (hv : Lib.validRune r = false) (w : World) :
    Calls Try.prog 24 #[.string seps, .int .i32 r] w fun e w' => e = .returned (.int .i64 (-1)) ∧ Below w.heap.size w w' := by
  have t0 : (r == 65533) = false := by simpa using he
  have C := Lib.hid (fun w => Try.utf8_ValidRune r w)
  rw [hv] at C
  unfold seps
  clear he hv
  go_enter Try.func24, Try.ntmps24
  go_wp2_with fail
  refine (C.out _).mono ?_
  rintro e w1 ⟨rfl, rfl⟩
  go_wp2_with fail
  go_ret
  exact ⟨rfl, Below.refl _ _⟩

set_option maxHeartbeats 1000000 in
set_option maxRecDepth 1000000 in
theorem rune_high (r : Int) (h : 128 ≤ r) (h2 : r ≤ 2147483647) (he : r ≠ 65533) (hv : Lib.validRune r = true) (w : World) :
    Calls Try.prog 24 #[.string seps, .int .i32 r] w fun e w' => e = .returned (.int .i64 (-1)) ∧ Below w.heap.size w w' := by
  have t0 : (r == 65533) = false := by simpa using he
  have C := Lib.hid (fun w => Try.utf8_ValidRune r w)
  rw [hv] at C
  obtain ⟨f1, f2, f3⟩ := encode_facts r (by rw [validRune_eq]; exact hv) h
  obtain ⟨rs, hrs⟩ : ∃ rs, Utf8.encode r = rs := ⟨_, rfl⟩
  have hcv : ∀ w, (convert 21 9 (.int .i32 r)).run Try.prog w = .ok (.string rs) w := fun w => by
    rw [← hrs]; exact run_convert_int_string w _ _ _ _ (by kernel_rfl) Try.underlying9
  rw [hrs] at f1 f2 f3
  have CI := Lib.hid (fun c w => Try.strings_IndexByte (seps.extract 2 2) c w)
  rw [show (seps.extract 2 2).data.toList = [] from rfl] at CI
  clear hrs he hv
  unfold seps at *
  by_cases h3 : 3 ≤ rs.size
  · clear f3
    go_enter Try.func24, Try.ntmps24
    go_wp2_with fail
    refine (C.out _).mono ?_
    rintro e w1 ⟨rfl, rfl⟩
    go_wp2_with fail
    go_step3
    go_wp2_with fail
    go_loop [9] (fun i => i = .int .i64 ((rs.size : Int) - 1)) (fun _ => 0)
    case atStart => rfl
    case round =>
      obtain rfl := hrel
      go_wp2_with fail
      go_ret
      exact ⟨rfl, Below.refl _ _⟩
  · have h1 : rs.size = 2 := by omega
    have hb : 1 < rs.size := by omega
    have hx : 128 ≤ (rs[1]'hb).toNat := by
      have := f3 (by omega)
      simpa [h1] using this
    clear f3
    go_enter Try.func24, Try.ntmps24
    go_wp2_with fail
    refine (C.out _).mono ?_
    rintro e w1 ⟨rfl, rfl⟩
    go_wp2_with fail
    go_step3
    go_wp2_with fail
    go_loop [9] (fun i => i = .int .i64 1) (fun _ => 0)
    case atStart => rfl
    case round =>
      obtain rfl := hrel
      have t1 : ((((⟨#[62, 58]⟩ : ByteArray)[1]'(by decide)).toNat : Int) != ((rs[1]'hb).toNat : Int)) = true := by
        show ((58 : Int) != _) = true
        simp; omega
      go_wp2_with fail
      go_step3
      go_wp2_with fail
      go_quiet (fail)
      go_wp2_with fail
      go_quiet ((go_at_call 28; exact (CI.out _ _).mono fun _ _ ⟨h1, h2⟩ => ⟨h1, _, h2⟩))
      go_wp2_with fail
      rw [Exit.noGoto_ret]
      simp (config := { zetaDelta := true }) only [Exit.inBlock, Exit.then, Exit.noGoto]
      go_ret
      exact ⟨rfl, ⟨rfl, rfl, rfl, Nat.le_refl _, fun _ _ => rfl⟩⟩

end Go.Proofs.Ytahodhodkgdgnaa
