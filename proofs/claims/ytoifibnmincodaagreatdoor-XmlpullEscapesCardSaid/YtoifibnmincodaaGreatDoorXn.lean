/- A numeral is read. -/
import Derived.Test.YtoifibnmincodaaGreatDoorXs
import Derived.Lib.ConvBytes
import Derived.Lib.ParseIntBMem
import Derived.Laws.Strings3
import Derived.Laws.Closers25
import Derived.Laws.Closers25b
import Derived.BigCall
import Derived.BigGuard
import Derived.Lib.Walk
namespace Go.Proofs.YtoifibnmincodaaGreatDoor
set_option linter.unusedSimpArgs false
set_option linter.unusedVariables false
open Go.RowKit

theorem lower_or (c : UInt8) : bits .or .u8 (c.toNat : Int) 32 = ((c ||| 32).toNat : Int) := by
  have h : ∀ n : Fin 256, bits .or .u8 ((UInt8.ofNat n.1).toNat : Int) 32 = ((UInt8.ofNat n.1 ||| 32).toNat : Int) := by decide +kernel
  have := h ⟨c.toNat, c.toNat_lt⟩
  simpa using this
def uTup : Option Nat → Value
  | some n => .tuple #[.int .u64 (n : Int), .nilIface]
  | none => .tuple #[.int .u64 0, .iface 204 (.int .i64 2)]
set_option maxHeartbeats 8000000 in
set_option maxRecDepth 1000000 in
theorem pu16_any (t : ByteArray) (hne : t.size ≠ 0) (hmax : t.size ≤ 6) (w : World) :
    Calls Tryz.prog 178 #[.string t, .int .i64 16, .int .i64 32] w fun e w' => e = .returned (uTup (numX 16 0 t.data.toList)) ∧ w' = Lib.bytesWorld w 5 t := by
  have CL := Lib.hid (fun (c : UInt8) w => by
    have := Tryz.internal_strconv_lower (c.toNat : Int) w
    rw [lower_or] at this
    exact this)
  have hemp : t.toList.isEmpty = false := by
    rw [← decide_eq_emptyBytes]
    exact decide_eq_false (fun h => hne (by rw [h]; rfl))
  have hcv := Lib.run_convert_string_bytes (P := Tryz.prog) w 9 47 5 t (u := .string) Tryz.underlying9 Tryz.underlying47 Tryz.underlying5
  have hB : ∀ j, j < t.size → (Lib.bytesWorld w 5 t).cell? ⟨w.heap.size, j, none⟩ = some (.int .u8 (t.data.toList.getD j 0).toNat) := fun j hj => Lib.bytesWorld_cell w 5 t j hj
  obtain ⟨W1, hW1⟩ : ∃ W1, W1 = Lib.bytesWorld w 5 t := ⟨_, rfl⟩
  rw [← hW1] at hcv hB ⊢
  clear hW1
  obtain ⟨bs, hL⟩ : ∃ bs, bs = t.data.toList := ⟨_, rfl⟩
  have hLn : bs.length = t.size := by rw [hL, Lib.size_eq]
  rw [← hL] at hB ⊢
  clear hL
  have hmv : IntKind.u64.wrap (IntKind.u64.wrap 4294967296 - 1) = 4294967295 := by
    rw [IntKind.wrap_u64, IntKind.wrap_u64]
    decide
  go_enter Tryz.func178, Tryz.ntmps178
  go_wp2
  go_loop [12, 13, 101] (fun vu vn vi => ∃ (k acc : Nat) (a : Int), vu = .bool false ∧ vn = .int .u64 a ∧ vi = .int .i64 k ∧ k ≤ t.size ∧ Hid (a = (acc : Int) ∧ acc < 16 ^ k ∧ numX 16 0 bs = numX 16 acc (bs.drop k)))
    (fun _ _ vi => t.size - (intOf vi).toNat)
  case atStart => exact ⟨0, 0, 0, rfl, rfl, rfl, by omega, rfl, by decide, rfl⟩
  case round =>
    obtain ⟨k, acc, a, rfl, rfl, rfl, hk, hh⟩ := hrel
    obtain ⟨ha, hacc, hdec⟩ := hh.out
    clear hh
    have hpow : 16 ^ k ≤ 16777216 := by
      have : 16 ^ k ≤ 16 ^ 6 := Nat.pow_le_pow_right (by decide) (by omega)
      simpa using this
    have hpow2 : 16 ^ (k + 1) = 16 ^ k * 16 := Nat.pow_succ ..
    have a0 : 0 ≤ a := by omega
    have a1 : a ≤ 16777215 := by omega
    by_cases hkn : k < t.size
    · have hc := hB k hkn
      have hdrop : bs.drop k = bs[k]'(by omega) :: bs.drop (k + 1) := List.drop_eq_getElem_cons (by omega)
      have hget : bs.getD k 0 = bs[k]'(by omega) := by simp [List.getD, List.getElem?_eq_getElem (show k < bs.length by omega)]
      rw [hdrop] at hdec
      rw [hget] at hc
      generalize bs[k]'(by omega) = c at hc hdec
      have hc256 : c.toNat < 256 := c.toNat_lt
      clear hB hdrop hget
      have CL1 := Lib.hid (CL.out c)
      have hx256 : (c ||| 32).toNat < 256 := (c ||| 32).toNat_lt
      by_cases hdig : 48 ≤ c.toNat ∧ c.toNat ≤ 57
      · obtain ⟨hd0, hd1⟩ := hdig
        have hF : numX 16 acc (c :: bs.drop (k + 1)) = numX 16 (acc * 16 + (c.toNat - 48)) (bs.drop (k + 1)) := by
          have : digX c = c.toNat - 48 := by unfold digX; rw [if_pos ⟨hd0, hd1⟩]
          rw [numX, this, if_pos (by omega)]
        have HN : Hid (a * 16 + ((c.toNat : Int) - 48) = ((acc * 16 + (c.toNat - 48) : Nat) : Int) ∧ acc * 16 + (c.toNat - 48) < 16 ^ (k + 1) ∧ numX 16 0 bs = numX 16 (acc * 16 + (c.toNat - 48)) (bs.drop (k + 1))) := Lib.hid ⟨by omega, by omega, hdec.trans hF⟩
        clear hacc hF hdec ha hpow hpow2
        go_wp2
        refine ⟨⟨k + 1, acc * 16 + (c.toNat - 48), a * 16 + ((c.toNat : Int) - 48), rfl, (by first | rfl | (congr 1; omega)), (by first | rfl | (congr 1; omega)), by omega, HN⟩, by simp [intOf]; omega⟩
      · by_cases h95 : c = 95
        · subst h95
          have hF : numX 16 acc ((95 : UInt8) :: bs.drop (k + 1)) = none := by rw [numX, if_neg (by decide)]
          rw [hF] at hdec
          have CL2 : Hid (∀ w, Calls Tryz.prog 190 #[.int .u8 95] w fun e w' => e = .returned (.int .u8 127) ∧ w' = w) := CL.out 95
          have hc : W1.cell? ⟨w.heap.size, k, none⟩ = some (.int .u8 95) := hc
          clear hacc hF ha hpow hpow2 CL1 CL hdig hc256 hx256
          go_wp2_with (go_at_call 190; refine (CL2.out _).mono ?_; rintro e w' ⟨rfl, rfl⟩)
          all_goals go_ret2
          all_goals first | exact ⟨rfl, rfl⟩ | exact ⟨by rw [hdec]; rfl, rfl⟩
        · have t95 : ((c.toNat : Int) == 95) = false := by
            have : c.toNat ≠ 95 := fun e => h95 (UInt8.toNat_inj.1 e)
            simp; omega
          by_cases hlet : 97 ≤ (c ||| 32).toNat ∧ (c ||| 32).toNat ≤ 102
          · have hd : digX c = (c ||| 32).toNat - 87 := by unfold digX; rw [if_neg hdig, if_pos (by omega)]
            have hF : numX 16 acc (c :: bs.drop (k + 1)) = numX 16 (acc * 16 + ((c ||| 32).toNat - 87)) (bs.drop (k + 1)) := by rw [numX, hd, if_pos (by omega)]
            generalize (c ||| 32).toNat = x at *
            have HN : Hid (a * 16 + ((x : Int) - 97 + 10) = ((acc * 16 + (x - 87) : Nat) : Int) ∧ acc * 16 + (x - 87) < 16 ^ (k + 1) ∧ numX 16 0 bs = numX 16 (acc * 16 + (x - 87)) (bs.drop (k + 1))) := Lib.hid ⟨by omega, by omega, hdec.trans hF⟩
            obtain ⟨hl0, hl1⟩ := hlet
            rcases (by omega : c.toNat < 48 ∨ 57 < c.toNat) with hcc | hcc
            all_goals
              clear hacc hF hdec ha hpow hpow2 hd hdig h95 CL
              go_wp2_with (go_at_call 190; refine (CL1.out _).mono ?_; rintro e w' ⟨rfl, rfl⟩)
              refine ⟨⟨k + 1, acc * 16 + (x - 87), a * 16 + ((x : Int) - 97 + 10), rfl, (by first | rfl | (congr 1; omega)), (by first | rfl | (congr 1; omega)), by omega, HN⟩, by simp [intOf]; omega⟩
          · have hd : ¬ digX c < 16 := by unfold digX; rw [if_neg hdig]; split <;> omega
            have hF : numX 16 acc (c :: bs.drop (k + 1)) = none := by rw [numX, if_neg hd]
            rw [hF] at hdec
            generalize (c ||| 32).toNat = x at *
            rcases (by omega : x < 97 ∨ (97 ≤ x ∧ 122 < x) ∨ (97 ≤ x ∧ x ≤ 122 ∧ 103 ≤ x)) with hl | hl | hl
            all_goals
              rcases (by omega : c.toNat < 48 ∨ 57 < c.toNat) with hcc | hcc
              all_goals
                clear hacc hF ha hpow hpow2 hd hdig h95 CL hlet
                go_wp2_with (go_at_call 190; refine (CL1.out _).mono ?_; rintro e w' ⟨rfl, rfl⟩)
                all_goals go_ret2
                all_goals first | exact ⟨rfl, rfl⟩ | exact ⟨by rw [hdec]; rfl, rfl⟩
    · have hkk : k = t.size := by omega
      subst hkk
      have hF : numX 16 acc (bs.drop t.size) = some acc := by rw [List.drop_eq_nil_of_le (by omega)]; rfl
      rw [hF] at hdec
      subst ha
      clear hacc hF a0 a1 hpow hpow2
      go_wp2
      go_ret2
      exact ⟨rfl, rfl⟩
end Go.Proofs.YtoifibnmincodaaGreatDoor
