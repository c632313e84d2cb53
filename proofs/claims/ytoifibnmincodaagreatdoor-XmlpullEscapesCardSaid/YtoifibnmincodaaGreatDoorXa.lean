/- Where the first of some bytes stands in a text of any bytes: the library's own search among bytes below 128. -/
import Derived.Test.YtoifibnmincodaaGreatDoorXm
import Derived.Test.YtoifibnmincodaaGreatDoorShelf
import Derived.Test.YtoifibnmincodaaGreatDoorScope
import Derived.Laws.RangeAny
import Derived.Laws.Runes
import Derived.Deep.LoopGhost
import Derived.WalkMore
namespace Go.Proofs.YtoifibnmincodaaGreatDoor
set_option linter.unusedSimpArgs false
set_option linter.unusedVariables false
open Go.RowKit

/-- Bytes below 128, two or three of them. -/
structure Seps (cs : Bs) : Prop where
  low : ∀ c ∈ cs, c.toNat < 128
  two : 2 ≤ cs.length
  few : cs.length ≤ 8
theorem Seps.at_ {cs : Bs} (h : Seps cs) {k : Nat} (hk : k < (mkS cs).size) : ((mkS cs)[k]'hk).toNat < 128 := by
  have h1 := byte_at hk
  exact h.low _ (List.mem_of_getElem? h1)
set_option maxHeartbeats 1000000 in
set_option maxRecDepth 1000000 in
theorem rune_error {cs : Bs} (hs : Seps cs) (w : World) :
    Calls Tryz.prog 137 #[.string (mkS cs), .int .i32 65533] w fun e w' => e = .returned (.int .i64 (-1)) ∧ Below w.heap.size w w' := by
  have HS := Lib.hid hs
  have h2 := hs.two
  have h8 := hs.few
  have hz : (mkS cs).size = cs.length := rfl
  rw [← hz] at h2 h8
  clear hs hz
  obtain ⟨S, hS⟩ : ∃ S, S = mkS cs := ⟨_, rfl⟩
  have HL : Hid (∀ k (hk : k < S.size), (S[k]'hk).toNat < 128) := by intro k hk; subst hS; exact HS.out.at_ hk
  rw [← hS] at h2 h8 ⊢
  clear hS
  go_enter Tryz.func137, Tryz.ntmps137
  go_wp2_with fail
  go_loopg [5, 6] S.size (fun g _ _ wx => ∃ i : Nat, i + g = S.size ∧ wx = w.iter S i)
  case atStart => exact ⟨0, by omega, rfl⟩
  case round =>
    obtain ⟨i, hi, rfl⟩ := hrel
    by_cases hlt : i < S.size
    · have n1 := fun ty => run_next_ascii (P := Tryz.prog) w S i ty hlt (HL.out i hlt)
      have t0 : (((S[i]'hlt).toNat : Int) == 65533) = false := by have := HL.out i hlt; simp; omega
      go_wp2_with fail
      go_roundg (gk - 1)
      case measure => omega
      case rel => exact ⟨i + 1, by omega, rfl⟩
    · have n2 := fun ty => run_next_end (P := Tryz.prog) w S i ty hlt
      go_wp2_with fail
      go_ret
      exact ⟨rfl, (Below.refl _ _).alloc (Nat.le_refl _) _⟩
set_option maxHeartbeats 1000000 in
set_option maxRecDepth 1000000 in
theorem rune_bad (cs : Bs) (r : Int) (h : 128 ≤ r) (h2 : r ≤ 2147483647) (he : r ≠ 65533) (hv : Lib.validRune r = false) (w : World) :
    Calls Tryz.prog 137 #[.string (mkS cs), .int .i32 r] w fun e w' => e = .returned (.int .i64 (-1)) ∧ Below w.heap.size w w' := by
  have t0 : (r == 65533) = false := by simpa using he
  have C := Lib.hid (fun w => Tryz.utf8_ValidRune r w)
  rw [hv] at C
  clear he hv
  go_enter Tryz.func137, Tryz.ntmps137
  go_wp2_with fail
  refine (C.out _).mono ?_
  rintro e w1 ⟨rfl, rfl⟩
  go_wp2_with fail
  go_ret
  exact ⟨rfl, Below.refl _ _⟩
theorem ixb_none {l : Bs} {c : UInt8} (h : ∀ x ∈ l, x ≠ c) : Lib.indexByte l c = -1 := by
  induction l with
  | nil => rfl
  | cons b r ih =>
    unfold Lib.indexByte
    have h1 := h b (by simp)
    have h2 := ih fun x hx => h x (by simp [hx])
    simp [h1, h2]
set_option maxHeartbeats 1000000 in
set_option maxRecDepth 1000000 in
theorem rune_high {cs : Bs} (hs : Seps cs) (r : Int) (h : 128 ≤ r) (h2 : r ≤ 2147483647) (he : r ≠ 65533) (hv : Lib.validRune r = true) (w : World) :
    Calls Tryz.prog 137 #[.string (mkS cs), .int .i32 r] w fun e w' => e = .returned (.int .i64 (-1)) ∧ Below w.heap.size w w' := by
  have t0 : (r == 65533) = false := by simpa using he
  have C := Lib.hid (fun w => Tryz.utf8_ValidRune r w)
  rw [hv] at C
  obtain ⟨f1, f2, f3⟩ := encode_facts r (by rw [validRune_eq]; exact hv) h
  obtain ⟨rs, hrs⟩ : ∃ rs, Utf8.encode r = rs := ⟨_, rfl⟩
  have hcv : ∀ w, (convert 21 9 (.int .i32 r)).run Tryz.prog w = .ok (.string rs) w := fun w => by
    rw [← hrs]; exact run_convert_int_string w _ _ _ _ (by kernel_rfl) Tryz.underlying9
  rw [hrs] at f1 f2 f3
  obtain ⟨k, hk⟩ : ∃ k, rs.size = k + 1 := ⟨rs.size - 1, by omega⟩
  have hb : k < rs.size := by omega
  have hx : 128 ≤ (rs[k]'hb).toNat := by
    have := f3 (by omega)
    have e : rs.size - 1 = k := by omega
    simpa [e] using this
  have hsz : (rs.size : Int) - 1 = (k : Int) := by omega
  obtain ⟨S, hS⟩ : ∃ S, S = mkS cs := ⟨_, rfl⟩
  have HL : Hid (∀ x ∈ S.data.toList, x.toNat < 128) := by intro x hx; subst hS; exact hs.low x hx
  have hS8 : S.size ≤ 8 := by subst hS; exact hs.few
  rw [← hS]
  clear hrs he hv f3 hS hs
  have hk2 : k ≤ 3 := by omega
  have hk1 : 1 ≤ k := by omega
  clear f1 f2 hk
  by_cases h3 : k < S.size
  · have t1 : (((S[k]'h3).toNat : Int) != ((rs[k]'hb).toNat : Int)) = true := by
      have := HL.out _ (List.mem_of_getElem? (byte_at h3))
      simp; omega
    have CI := Lib.hid (fun (p : ByteArray) (hp : ∀ x ∈ p.data.toList, x ∈ S.data.toList) w => by
      have := Tryz.strings_IndexByte p ((rs[k]'hb).toNat : Int) w
      rw [ixb_none (fun x hxm e => by
        have h1 := HL.out x (hp x hxm)
        have : x.toNat = (rs[k]'hb).toNat := by rw [e]; simp
        omega)] at this
      exact this)
    have CI1 := Lib.hid (CI.out (S.extract (k + 1) S.size) (fun x hx => mem_extract hx))
    clear CI
    go_enter Tryz.func137, Tryz.ntmps137
    go_wp2_with fail
    refine (C.out _).mono ?_
    rintro e w1 ⟨rfl, rfl⟩
    go_wp2_with fail
    go_step3
    go_wp2_with fail
    go_loop [9] (fun i => i = .int .i64 (k : Int)) (fun _ => 0)
    case atStart => rfl
    case round =>
      obtain rfl := hrel
      go_wp2_with fail
      go_step3
      go_wp2_with fail
      go_quiet (fail)
      go_wp2_with fail
      go_quiet ((go_at_call 145; exact (CI1.out _).mono fun _ _ ⟨h1, h2⟩ => ⟨h1, _, h2⟩))
      go_wp2_with fail
      rw [Exit.noGoto_ret]
      simp (config := { zetaDelta := true }) only [Exit.inBlock, Exit.then, Exit.noGoto]
      go_ret
      exact ⟨rfl, ⟨rfl, rfl, rfl, Nat.le_refl _, fun _ _ => rfl⟩⟩
  · have h3z : ¬ (k : Int) < (S.size : Int) := by omega
    go_enter Tryz.func137, Tryz.ntmps137
    go_wp2_with fail
    refine (C.out _).mono ?_
    rintro e w1 ⟨rfl, rfl⟩
    go_wp2_with fail
    go_step3
    go_wp2_with fail
    go_loop [9] (fun i => i = .int .i64 (k : Int)) (fun _ => 0)
    case atStart => rfl
    case round =>
      obtain rfl := hrel
      go_wp2_with fail
      go_ret
      exact ⟨rfl, Below.refl _ _⟩
end Go.Proofs.YtoifibnmincodaaGreatDoor
