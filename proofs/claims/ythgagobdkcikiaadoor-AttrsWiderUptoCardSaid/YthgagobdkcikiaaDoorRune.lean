/- The library looks for a rune in the text of the signs that a key may have: : . _ - -/
import Derived.Test.YthgagobdkcikiaaDoorText
import Derived.Test.YthgagobdkcikiaaDoorShelf
import Derived.Test.YthgagobdkcikiaaDoorScope
import Derived.Laws.RangeAny
import Derived.Laws.Runes
import Derived.Deep.LoopGhost
import Derived.WalkMore
namespace Go.Proofs.YthgagobdkcikiaaDoor
set_option linter.unusedSimpArgs false
set_option linter.unusedVariables false
open Go.RowKit

def puns : ByteArray := ⟨#[58, 46, 95, 45]⟩
set_option maxRecDepth 1000000 in
theorem rune_error (w : World) :
    Calls Tryd.prog 77 #[.string puns, .int .i32 65533] w fun e w' => e = .returned (.int .i64 (-1)) ∧ Below w.heap.size w w' := by
  unfold puns
  have n0 := fun ty => run_next_ascii (P := Tryd.prog) w ⟨#[58, 46, 95, 45]⟩ 0 ty (by decide) (by decide)
  have n1 := fun ty => run_next_ascii (P := Tryd.prog) w ⟨#[58, 46, 95, 45]⟩ 1 ty (by decide) (by decide)
  have n2 := fun ty => run_next_ascii (P := Tryd.prog) w ⟨#[58, 46, 95, 45]⟩ 2 ty (by decide) (by decide)
  have n3 := fun ty => run_next_ascii (P := Tryd.prog) w ⟨#[58, 46, 95, 45]⟩ 3 ty (by decide) (by decide)
  have n4 := fun ty => run_next_end (P := Tryd.prog) w ⟨#[58, 46, 95, 45]⟩ 4 ty (by decide)
  go_enter Tryd.func77, Tryd.ntmps77
  go_wp2_with fail
  go_loopg [5, 6] 4 (fun g _ _ wx => ∃ i : Nat, i + g = 4 ∧ wx = w.iter ⟨#[58, 46, 95, 45]⟩ i)
  case atStart => exact ⟨0, rfl, rfl⟩
  case round =>
    obtain ⟨i, hi, rfl⟩ := hrel
    match gk, hi with
    | 0, hi =>
      obtain rfl : i = 4 := by omega
      go_wp2_with fail
      go_ret
      exact ⟨rfl, (Below.refl _ _).alloc (Nat.le_refl _) _⟩
    | 1, hi =>
      obtain rfl : i = 3 := by omega
      go_wp2_with fail
      go_roundg 0
      case measure => omega
      case rel => exact ⟨4, rfl, rfl⟩
    | 2, hi =>
      obtain rfl : i = 2 := by omega
      go_wp2_with fail
      go_roundg 1
      case measure => omega
      case rel => exact ⟨3, rfl, rfl⟩
    | 3, hi =>
      obtain rfl : i = 1 := by omega
      go_wp2_with fail
      go_roundg 2
      case measure => omega
      case rel => exact ⟨2, rfl, rfl⟩
    | 4, hi =>
      obtain rfl : i = 0 := by omega
      go_wp2_with fail
      go_roundg 3
      case measure => omega
      case rel => exact ⟨1, rfl, rfl⟩

set_option maxHeartbeats 1000000 in
set_option maxRecDepth 1000000 in
theorem rune_bad (r : Int) (h : 128 ≤ r) (h2 : r ≤ 2147483647) (he : r ≠ 65533) (hv : Lib.validRune r = false) (w : World) :
    Calls Tryd.prog 77 #[.string puns, .int .i32 r] w fun e w' => e = .returned (.int .i64 (-1)) ∧ Below w.heap.size w w' := by
  have t0 : (r == 65533) = false := by simpa using he
  have C := Lib.hid (fun w => Tryd.utf8_ValidRune r w)
  rw [hv] at C
  unfold puns
  clear he hv
  go_enter Tryd.func77, Tryd.ntmps77
  go_wp2_with fail
  refine (C.out _).mono ?_
  rintro e w1 ⟨rfl, rfl⟩
  go_wp2_with fail
  go_ret
  exact ⟨rfl, Below.refl _ _⟩

theorem pun_none (k : Nat) (hk : k = 2 ∨ k = 3 ∨ k = 4) (c : UInt8) (hc : 128 ≤ c.toNat) : Lib.indexByte (puns.extract k 4).data.toList ((c.toNat : Int).toNat.toUInt8) = -1 := by
  have h : ∀ m : Fin 256, 128 ≤ m.1 → Lib.indexByte (puns.extract 2 4).data.toList ((m.1 : Int).toNat.toUInt8) = -1 ∧ Lib.indexByte (puns.extract 3 4).data.toList ((m.1 : Int).toNat.toUInt8) = -1 ∧ Lib.indexByte (puns.extract 4 4).data.toList ((m.1 : Int).toNat.toUInt8) = -1 := by decide +kernel
  have h1 := h ⟨c.toNat, c.toNat_lt⟩ hc
  rcases hk with rfl | rfl | rfl
  · exact h1.1
  · exact h1.2.1
  · exact h1.2.2
set_option maxHeartbeats 1000000 in
set_option maxRecDepth 1000000 in
theorem rune_high (r : Int) (h : 128 ≤ r) (h2 : r ≤ 2147483647) (he : r ≠ 65533) (hv : Lib.validRune r = true) (w : World) :
    Calls Tryd.prog 77 #[.string puns, .int .i32 r] w fun e w' => e = .returned (.int .i64 (-1)) ∧ Below w.heap.size w w' := by
  have t0 : (r == 65533) = false := by simpa using he
  have C := Lib.hid (fun w => Tryd.utf8_ValidRune r w)
  rw [hv] at C
  obtain ⟨f1, f2, f3⟩ := encode_facts r (by rw [validRune_eq]; exact hv) h
  obtain ⟨rs, hrs⟩ : ∃ rs, Utf8.encode r = rs := ⟨_, rfl⟩
  have hcv : ∀ w, (convert 21 9 (.int .i32 r)).run Tryd.prog w = .ok (.string rs) w := fun w => by
    rw [← hrs]; exact run_convert_int_string w _ _ _ _ (by kernel_rfl) Tryd.underlying9
  rw [hrs] at f1 f2 f3
  rcases (by omega : rs.size = 2 ∨ rs.size = 3 ∨ rs.size = 4) with hm | hm | hm
  · have h1 : rs.size = 2 := by omega
    have hb : 1 < rs.size := by omega
    have hx : 128 ≤ (rs[1]'hb).toNat := by
      have := f3 (by omega)
      simpa [h1] using this
    have CI := Lib.hid (fun w => Tryd.strings_IndexByte (puns.extract 2 4) ((rs[1]'hb).toNat : Int) w)
    rw [pun_none 2 (by omega) _ hx] at CI
    clear f3 hrs he hv f1 f2
    unfold puns at *
    go_enter Tryd.func77, Tryd.ntmps77
    go_wp2_with fail
    refine (C.out _).mono ?_
    rintro e w1 ⟨rfl, rfl⟩
    go_wp2_with fail
    go_step3
    go_wp2_with fail
    go_loop [9] (fun i => i = .int .i64 1) (fun _ => 0)
    case atStart => rfl
    case round =>
      obtain rfl := hrel
      have t1 : ((((⟨#[58, 46, 95, 45]⟩ : ByteArray)[1]'(by decide)).toNat : Int) != ((rs[1]'hb).toNat : Int)) = true := by
        show ((46 : Int) != _) = true
        simp; omega
      go_wp2_with fail
      go_step3
      go_wp2_with fail
      go_quiet (fail)
      go_wp2_with fail
      go_quiet ((go_at_call 91; exact (CI.out _).mono fun _ _ ⟨h1, h2⟩ => ⟨h1, _, h2⟩))
      go_wp2_with fail
      rw [Exit.noGoto_ret]
      simp (config := { zetaDelta := true }) only [Exit.inBlock, Exit.then, Exit.noGoto]
      go_ret
      exact ⟨rfl, ⟨rfl, rfl, rfl, Nat.le_refl _, fun _ _ => rfl⟩⟩
  · have h1 : rs.size = 3 := by omega
    have hb : 2 < rs.size := by omega
    have hx : 128 ≤ (rs[2]'hb).toNat := by
      have := f3 (by omega)
      simpa [h1] using this
    have CI := Lib.hid (fun w => Tryd.strings_IndexByte (puns.extract 3 4) ((rs[2]'hb).toNat : Int) w)
    rw [pun_none 3 (by omega) _ hx] at CI
    clear f3 hrs he hv f1 f2
    unfold puns at *
    go_enter Tryd.func77, Tryd.ntmps77
    go_wp2_with fail
    refine (C.out _).mono ?_
    rintro e w1 ⟨rfl, rfl⟩
    go_wp2_with fail
    go_step3
    go_wp2_with fail
    go_loop [9] (fun i => i = .int .i64 2) (fun _ => 0)
    case atStart => rfl
    case round =>
      obtain rfl := hrel
      have t1 : ((((⟨#[58, 46, 95, 45]⟩ : ByteArray)[2]'(by decide)).toNat : Int) != ((rs[2]'hb).toNat : Int)) = true := by
        show ((95 : Int) != _) = true
        simp; omega
      go_wp2_with fail
      go_step3
      go_wp2_with fail
      go_quiet (fail)
      go_wp2_with fail
      go_quiet ((go_at_call 91; exact (CI.out _).mono fun _ _ ⟨h1, h2⟩ => ⟨h1, _, h2⟩))
      go_wp2_with fail
      rw [Exit.noGoto_ret]
      simp (config := { zetaDelta := true }) only [Exit.inBlock, Exit.then, Exit.noGoto]
      go_ret
      exact ⟨rfl, ⟨rfl, rfl, rfl, Nat.le_refl _, fun _ _ => rfl⟩⟩
  · have h1 : rs.size = 4 := by omega
    have hb : 3 < rs.size := by omega
    have hx : 128 ≤ (rs[3]'hb).toNat := by
      have := f3 (by omega)
      simpa [h1] using this
    have CI := Lib.hid (fun w => Tryd.strings_IndexByte (puns.extract 4 4) ((rs[3]'hb).toNat : Int) w)
    rw [pun_none 4 (by omega) _ hx] at CI
    clear f3 hrs he hv f1 f2
    unfold puns at *
    go_enter Tryd.func77, Tryd.ntmps77
    go_wp2_with fail
    refine (C.out _).mono ?_
    rintro e w1 ⟨rfl, rfl⟩
    go_wp2_with fail
    go_step3
    go_wp2_with fail
    go_loop [9] (fun i => i = .int .i64 3) (fun _ => 0)
    case atStart => rfl
    case round =>
      obtain rfl := hrel
      have t1 : ((((⟨#[58, 46, 95, 45]⟩ : ByteArray)[3]'(by decide)).toNat : Int) != ((rs[3]'hb).toNat : Int)) = true := by
        show ((45 : Int) != _) = true
        simp; omega
      go_wp2_with fail
      go_step3
      go_wp2_with fail
      go_quiet (fail)
      go_wp2_with fail
      go_quiet ((go_at_call 91; exact (CI.out _).mono fun _ _ ⟨h1, h2⟩ => ⟨h1, _, h2⟩))
      go_wp2_with fail
      rw [Exit.noGoto_ret]
      simp (config := { zetaDelta := true }) only [Exit.inBlock, Exit.then, Exit.noGoto]
      go_ret
      exact ⟨rfl, ⟨rfl, rfl, rfl, Nat.le_refl _, fun _ _ => rfl⟩⟩

def punAt (c : Int) : Int := if c = 58 then 0 else if c = 46 then 1 else if c = 95 then 2 else if c = 45 then 3 else -1
theorem rune_any (c : Int) (h0 : 0 ≤ c) (h2 : c ≤ 2147483647) (w : World) :
    Calls Tryd.prog 77 #[.string puns, .int .i32 c] w fun e w' => e = .returned (.int .i64 (punAt c)) ∧ Below w.heap.size w w' := by
  by_cases h : c < 128
  · refine (Tryd.strings_IndexRune_ascii puns c w h0 h).mono ?_
    rintro e w' ⟨rfl, rfl⟩
    refine ⟨?_, Below.refl _ _⟩
    obtain ⟨n, rfl⟩ : ∃ n : Nat, c = (n : Int) := ⟨c.toNat, by omega⟩
    have hn : n < 128 := by omega
    have : ∀ m : Fin 128, Lib.indexByte [58, 46, 95, 45] ((m.1 : Int).toNat.toUInt8) = punAt (m.1 : Int) := by decide +kernel
    rw [← this ⟨n, hn⟩]
    rfl
  · have e : punAt c = -1 := by
      unfold punAt; rw [if_neg (by omega), if_neg (by omega), if_neg (by omega), if_neg (by omega)]
    rw [e]
    by_cases he : c = 65533
    · subst he; exact rune_error w
    · cases hv : Lib.validRune c with
      | true => exact rune_high c (by omega) h2 he hv w
      | false => exact rune_bad c (by omega) h2 he hv w
set_option maxRecDepth 100000 in
theorem hasPun_any (c : Int) (h0 : 0 ≤ c) (h2 : c ≤ 2147483647) (w : World) :
    Calls Tryd.prog 57 #[.string puns, .int .i32 c] w fun e w' => e = .returned (.bool (decide (0 ≤ punAt c))) ∧ Below w.heap.size w w' := by
  have C := Lib.hid (rune_any c h0 h2 w)
  unfold puns at *
  generalize punAt c = x at *
  go_enter Tryd.func57, Tryd.ntmps57
  go_wp2_with fail
  refine C.out.mono ?_
  rintro e w1 ⟨rfl, hb⟩
  have HB := Lib.hid hb
  clear hb
  go_wp2_with fail
  go_ret
  exact ⟨rfl, HB.out⟩
end Go.Proofs.YthgagobdkcikiaaDoor
