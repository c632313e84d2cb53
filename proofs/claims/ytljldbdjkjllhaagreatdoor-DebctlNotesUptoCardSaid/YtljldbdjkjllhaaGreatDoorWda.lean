/- A numeral is read. What strconv.ParseUint answers; a character by its number. A name is taken. A character by its number, and by its name; an entity. A character by its name; an entity. An entity is taken. Labels in a scope; a row of bytes that a call appends to while it takes from a reader. What a value stands for. -/
import Derived.Test.YtljldbdjkjllhaaGreatDoorWba
import Derived.Lib.ConvBytes
import Derived.Lib.ParseIntBMem
import Derived.Laws.Strings3
import Derived.Laws.Closers25
import Derived.Laws.Closers25b
import Derived.BigCall
import Derived.BigGuard
import Derived.Lib.Walk
import Derived.Test.YtljldbdjkjllhaaGreatDoorWca
import Derived.ScopeJumps
import Derived.Lib.FrozenHead
import Derived.Lib.SlBytesRow
import Derived.Lib.RuneBytes
/- A numeral is read. -/
namespace Go.Proofs.YtljldbdjkjllhaaGreatDoor
set_option linter.unusedSimpArgs false
set_option linter.unusedVariables false
open Go.RowKit

theorem lower_or (c : UInt8) : bits .or .u8 (c.toNat : Int) 32 = ((c ||| 32).toNat : Int) := by
  have h : ∀ n : Fin 256, bits .or .u8 ((UInt8.ofNat n.1).toNat : Int) 32 = ((UInt8.ofNat n.1 ||| 32).toNat : Int) := by decide +kernel
  have := h ⟨c.toNat, c.toNat_lt⟩
  simpa using this
def uTup : Option Nat → Value
  | some n => .tuple #[.int .u64 (n : Int), .nilIface]
  | none => .tuple #[.int .u64 0, .iface 257 (.int .i64 2)]
set_option maxHeartbeats 8000000 in
set_option maxRecDepth 1000000 in
theorem pu16_any (t : ByteArray) (hne : t.size ≠ 0) (hmax : t.size ≤ 6) (w : World) :
    Calls Tryz.prog 264 #[.string t, .int .i64 16, .int .i64 32] w fun e w' => e = .returned (uTup (numX 16 0 t.data.toList)) ∧ w' = Lib.bytesWorld w 5 t := by
  have CL := Lib.hid (fun (c : UInt8) w => by
    have := Tryz.internal_strconv_lower (c.toNat : Int) w
    rw [lower_or] at this
    exact this)
  have hemp : t.toList.isEmpty = false := by
    rw [← decide_eq_emptyBytes]
    exact decide_eq_false (fun h => hne (by rw [h]; rfl))
  have hcv := Lib.run_convert_string_bytes (P := Tryz.prog) w 9 46 5 t (u := .string) Tryz.underlying9 Tryz.underlying46 Tryz.underlying5
  have hB : ∀ j, j < t.size → (Lib.bytesWorld w 5 t).cell? ⟨w.heap.size, j, none⟩ = some (.int .u8 (t.data.toList.getD j 0).toNat) := fun j hj => Lib.bytesWorld_cell w 5 t j hj
  obtain ⟨W1, hW1⟩ : ∃ W1, W1 = Lib.bytesWorld w 5 t := ⟨_, rfl⟩
  rw [← hW1] at hcv hB ⊢
  clear hW1
  obtain ⟨bs, hL⟩ : ∃ bs, bs = t.data.toList := ⟨_, rfl⟩
  have hLn : bs.length = t.size := by rw [hL, Lib.size_eq]
  rw [← hL] at hB ⊢
  clear hL
  have hmv : IntKind.u64.wrap (IntKind.u64.wrap 4294967296 - 1) = 4294967295 := by
    rw [IntKind.wrap_u64, IntKind.wrap_u64]
    decide
  go_enter Tryz.func264, Tryz.ntmps264
  go_wp2
  go_loop [12, 13, 101] (fun vu vn vi => ∃ (k acc : Nat) (a : Int), vu = .bool false ∧ vn = .int .u64 a ∧ vi = .int .i64 k ∧ k ≤ t.size ∧ Hid (a = (acc : Int) ∧ acc < 16 ^ k ∧ numX 16 0 bs = numX 16 acc (bs.drop k)))
    (fun _ _ vi => t.size - (intOf vi).toNat)
  case atStart => exact ⟨0, 0, 0, rfl, rfl, rfl, by omega, rfl, by decide, rfl⟩
  case round =>
    obtain ⟨k, acc, a, rfl, rfl, rfl, hk, hh⟩ := hrel
    obtain ⟨ha, hacc, hdec⟩ := hh.out
    clear hh
    have hpow : 16 ^ k ≤ 16777216 := by
      have : 16 ^ k ≤ 16 ^ 6 := Nat.pow_le_pow_right (by decide) (by omega)
      simpa using this
    have hpow2 : 16 ^ (k + 1) = 16 ^ k * 16 := Nat.pow_succ ..
    have a0 : 0 ≤ a := by omega
    have a1 : a ≤ 16777215 := by omega
    by_cases hkn : k < t.size
    · have hc := hB k hkn
      have hdrop : bs.drop k = bs[k]'(by omega) :: bs.drop (k + 1) := List.drop_eq_getElem_cons (by omega)
      have hget : bs.getD k 0 = bs[k]'(by omega) := by simp [List.getD, List.getElem?_eq_getElem (show k < bs.length by omega)]
      rw [hdrop] at hdec
      rw [hget] at hc
      generalize bs[k]'(by omega) = c at hc hdec
      have hc256 : c.toNat < 256 := c.toNat_lt
      clear hB hdrop hget
      have CL1 := Lib.hid (CL.out c)
      have hx256 : (c ||| 32).toNat < 256 := (c ||| 32).toNat_lt
      by_cases hdig : 48 ≤ c.toNat ∧ c.toNat ≤ 57
      · obtain ⟨hd0, hd1⟩ := hdig
        have hF : numX 16 acc (c :: bs.drop (k + 1)) = numX 16 (acc * 16 + (c.toNat - 48)) (bs.drop (k + 1)) := by
          have : digX c = c.toNat - 48 := by unfold digX; rw [if_pos ⟨hd0, hd1⟩]
          rw [numX, this, if_pos (by omega)]
        have HN : Hid (a * 16 + ((c.toNat : Int) - 48) = ((acc * 16 + (c.toNat - 48) : Nat) : Int) ∧ acc * 16 + (c.toNat - 48) < 16 ^ (k + 1) ∧ numX 16 0 bs = numX 16 (acc * 16 + (c.toNat - 48)) (bs.drop (k + 1))) := Lib.hid ⟨by omega, by omega, hdec.trans hF⟩
        clear hacc hF hdec ha hpow hpow2
        go_wp2
        refine ⟨⟨k + 1, acc * 16 + (c.toNat - 48), a * 16 + ((c.toNat : Int) - 48), rfl, (by first | rfl | (congr 1; omega)), (by first | rfl | (congr 1; omega)), by omega, HN⟩, by simp [intOf]; omega⟩
      · by_cases h95 : c = 95
        · subst h95
          have hF : numX 16 acc ((95 : UInt8) :: bs.drop (k + 1)) = none := by rw [numX, if_neg (by decide)]
          rw [hF] at hdec
          have CL2 : Hid (∀ w, Calls Tryz.prog 268 #[.int .u8 95] w fun e w' => e = .returned (.int .u8 127) ∧ w' = w) := CL.out 95
          have hc : W1.cell? ⟨w.heap.size, k, none⟩ = some (.int .u8 95) := hc
          clear hacc hF ha hpow hpow2 CL1 CL hdig hc256 hx256
          go_wp2_with (go_at_call 268; refine (CL2.out _).mono ?_; rintro e w' ⟨rfl, rfl⟩)
          all_goals go_ret2
          all_goals first | exact ⟨rfl, rfl⟩ | exact ⟨by rw [hdec]; rfl, rfl⟩
        · have t95 : ((c.toNat : Int) == 95) = false := by
            have : c.toNat ≠ 95 := fun e => h95 (UInt8.toNat_inj.1 e)
            simp; omega
          by_cases hlet : 97 ≤ (c ||| 32).toNat ∧ (c ||| 32).toNat ≤ 102
          · have hd : digX c = (c ||| 32).toNat - 87 := by unfold digX; rw [if_neg hdig, if_pos (by omega)]
            have hF : numX 16 acc (c :: bs.drop (k + 1)) = numX 16 (acc * 16 + ((c ||| 32).toNat - 87)) (bs.drop (k + 1)) := by rw [numX, hd, if_pos (by omega)]
            generalize (c ||| 32).toNat = x at *
            have HN : Hid (a * 16 + ((x : Int) - 97 + 10) = ((acc * 16 + (x - 87) : Nat) : Int) ∧ acc * 16 + (x - 87) < 16 ^ (k + 1) ∧ numX 16 0 bs = numX 16 (acc * 16 + (x - 87)) (bs.drop (k + 1))) := Lib.hid ⟨by omega, by omega, hdec.trans hF⟩
            obtain ⟨hl0, hl1⟩ := hlet
            rcases (by omega : c.toNat < 48 ∨ 57 < c.toNat) with hcc | hcc
            all_goals
              clear hacc hF hdec ha hpow hpow2 hd hdig h95 CL
              go_wp2_with (go_at_call 268; refine (CL1.out _).mono ?_; rintro e w' ⟨rfl, rfl⟩)
              refine ⟨⟨k + 1, acc * 16 + (x - 87), a * 16 + ((x : Int) - 97 + 10), rfl, (by first | rfl | (congr 1; omega)), (by first | rfl | (congr 1; omega)), by omega, HN⟩, by simp [intOf]; omega⟩
          · have hd : ¬ digX c < 16 := by unfold digX; rw [if_neg hdig]; split <;> omega
            have hF : numX 16 acc (c :: bs.drop (k + 1)) = none := by rw [numX, if_neg hd]
            rw [hF] at hdec
            generalize (c ||| 32).toNat = x at *
            rcases (by omega : x < 97 ∨ (97 ≤ x ∧ 122 < x) ∨ (97 ≤ x ∧ x ≤ 122 ∧ 103 ≤ x)) with hl | hl | hl
            all_goals
              rcases (by omega : c.toNat < 48 ∨ 57 < c.toNat) with hcc | hcc
              all_goals
                clear hacc hF ha hpow hpow2 hd hdig h95 CL hlet
                go_wp2_with (go_at_call 268; refine (CL1.out _).mono ?_; rintro e w' ⟨rfl, rfl⟩)
                all_goals go_ret2
                all_goals first | exact ⟨rfl, rfl⟩ | exact ⟨by rw [hdec]; rfl, rfl⟩
    · have hkk : k = t.size := by omega
      subst hkk
      have hF : numX 16 acc (bs.drop t.size) = some acc := by rw [List.drop_eq_nil_of_le (by omega)]; rfl
      rw [hF] at hdec
      subst ha
      clear hacc hF a0 a1 hpow hpow2
      go_wp2
      go_ret2
      exact ⟨rfl, rfl⟩
end Go.Proofs.YtljldbdjkjllhaaGreatDoor

/- What strconv.ParseUint answers; a character by its number. -/
namespace Go.Proofs.YtljldbdjkjllhaaGreatDoor
set_option linter.unusedSimpArgs false
set_option linter.unusedVariables false
open Go.RowKit

theorem dig10 (c : UInt8) : digX c < 10 ↔ 48 ≤ c.toNat ∧ c.toNat ≤ 57 := by
  unfold digX
  split
  · rename_i h; constructor
    · intro _; exact h
    · intro _; omega
  · rename_i h; constructor
    · intro h2; split at h2 <;> omega
    · intro h2; exact absurd h2 h
theorem num10 : ∀ (l : List UInt8) (acc : Nat), (acc + 1) * 10 ^ l.length ≤ 10000000 → Lib.parseUintM 4294967295 acc l = match numX 10 acc l with
    | some n => .ok n
    | none => .syntax
  | [], acc, h => rfl
  | c :: r, acc, h => by
    have hp : 10 ^ (r.length + 1) = 10 ^ r.length * 10 := Nat.pow_succ ..
    rw [List.length_cons, hp] at h
    have h1 : 0 < 10 ^ r.length := Nat.pow_pos (by decide)
    have h2 : (acc + 1) * 10 ≤ (acc + 1) * (10 ^ r.length * 10) := Nat.mul_le_mul_left _ (by omega)
    by_cases hd : 48 ≤ c.toNat ∧ c.toNat ≤ 57
    · have hdc : digX c = c.toNat - 48 := by unfold digX; rw [if_pos hd]
      have h3 : acc * 10 + (c.toNat - 48) + 1 ≤ (acc + 1) * 10 := by omega
      have h4 : (acc * 10 + (c.toNat - 48) + 1) * 10 ^ r.length ≤ 10000000 := by
        refine Nat.le_trans (Nat.mul_le_mul_right _ h3) ?_
        rw [Nat.mul_assoc, Nat.mul_comm 10]; exact h
      have ih := num10 r (acc * 10 + (c.toNat - 48)) h4
      rw [numX, hdc, if_pos (by omega), ← ih]
      have hcut : ¬ 1844674407370955162 ≤ acc := by omega
      have hov : ¬ 4294967295 < acc * 10 + (c.toNat - 48) := by omega
      simp [Lib.parseUintM, hd.1, hd.2, hcut, hov]
    · rw [numX, if_neg (fun h => hd ((dig10 c).1 h))]
      simp [Lib.parseUintM, hd]
/-- A numeral's base, and how many digits it may have. -/
def BaseX (b : Nat) (t : ByteArray) : Prop := (b = 10 ∧ t.size ≤ 7) ∨ (b = 16 ∧ t.size ≤ 6)
theorem puI_any (b : Nat) (t : ByteArray) (hb : BaseX b t) (w : World) :
    Calls Tryz.prog 264 #[.string t, .int .i64 (b : Int), .int .i64 32] w fun e w' => e = .returned (uTup (uintX b t.data.toList)) ∧ Below w.heap.size w w' := by
  by_cases h0 : t.size = 0
  · have ht := empty_of h0
    subst ht
    refine (Tryz.internal_strconv_ParseUint_empty (b : Int) 32 w).mono ?_
    rintro e w' ⟨rfl, rfl⟩
    exact ⟨rfl, Below.refl _ _⟩
  · have hne : t.data.toList ≠ [] := fun e => h0 (by rw [← size_len, e]; rfl)
    have hu : ∀ b, uintX b t.data.toList = numX b 0 t.data.toList := fun b => by unfold uintX; rw [if_neg hne]
    rcases hb with ⟨rfl, hz⟩ | ⟨rfl, hz⟩
    · refine (Tryz.internal_strconv_ParseUint_10_b32 t h0 (by omega) w).mono ?_
      rintro e w' ⟨rfl, rfl⟩
      refine ⟨?_, Lib.bytesWorld_below _ _ _⟩
      rw [hu, num10 _ 0 (by
        have : 10 ^ t.data.toList.length ≤ 10 ^ 7 := Nat.pow_le_pow_right (by decide) (by rw [size_len]; exact hz)
        rw [Nat.zero_add, Nat.one_mul]; exact this)]
      cases numX 10 0 t.data.toList with
      | none => rfl
      | some n => rfl
    · refine (pu16_any t h0 hz w).mono ?_
      rintro e w' ⟨rfl, rfl⟩
      exact ⟨by rw [hu], Lib.bytesWorld_below _ _ _⟩
/-- What ParseUint answers. -/
def PuEnds (res : Option Nat) (e : Ending) : Prop := match res with
  | some n => e = .returned (.tuple #[.int .u64 (n : Int), .nilIface])
  | none => ∃ N : Nat, e = .returned (.tuple #[.int .u64 0, .iface 259 (.pointer (some ⟨N, 0, none⟩))])
set_option maxHeartbeats 1000000 in
set_option maxRecDepth 100000 in
theorem pu_any (b : Nat) (t : ByteArray) (hb : BaseX b t) {B : Nat} {w : World} (hE : XEnv B w) :
    Calls Tryz.prog 259 #[.string t, .int .i64 (b : Int), .int .i64 32] w fun e w' => PuEnds (uintX b t.data.toList) e ∧ Below w.heap.size w w' := by
  have C := Lib.hid (puI_any b t hb w)
  have hz : t.size ≤ 281474976710656 := by rcases hb with ⟨_, h⟩ | ⟨_, h⟩ <;> omega
  have CE : Hid (∀ w', Below w.heap.size w w' → Calls Tryz.prog 265 #[.string ⟨#[80, 97, 114, 115, 101, 85, 105, 110, 116]⟩, .string t, .int .i64 (b : Int), .int .i64 32, .iface 257 (.int .i64 2)] w' fun e w'' => ∃ N : Nat, e = .returned (.iface 259 (.pointer (some ⟨N, 0, none⟩))) ∧ Below w'.heap.size w' w'') := fun w' hb' => by
    obtain ⟨ev, h1, h2⟩ := (hE.below hb').err
    refine (Tryz.strconv_toError_syntax ⟨#[80, 97, 114, 115, 101, 85, 105, 110, 116]⟩ t (b : Int) 32 ev w' hz h1 h2).mono ?_
    rintro e w2 ⟨N, rfl, -, -, h⟩
    exact ⟨N, rfl, h⟩
  clear hb hE hz
  unfold PuEnds
  generalize uintX b t.data.toList = res at *
  cases res with
  | some n =>
    unfold uTup at C
    go_enter Tryz.func259, Tryz.ntmps259
    go_wp2_with fail
    refine C.out.mono ?_
    rintro e w1 ⟨rfl, hb⟩
    have HB := Lib.hid hb
    clear hb C CE
    go_wp2_with fail
    go_ret2
    exact ⟨rfl, HB.out⟩
  | none =>
    unfold uTup at C
    go_enter Tryz.func259, Tryz.ntmps259
    go_wp2_with fail
    refine C.out.mono ?_
    rintro e w1 ⟨rfl, hb⟩
    have HB := Lib.hid hb
    have CE1 := Lib.hid (CE.out _ hb)
    clear C CE
    go_wp2_with fail
    refine CE1.out.mono ?_
    rintro e w2 ⟨N, rfl, h3⟩
    have HB2 := Lib.hid (HB.out.trans (h3.mono HB.out.size))
    clear h3 CE1
    go_wp2_with fail
    go_ret2
    exact ⟨⟨N, rfl⟩, HB2.out⟩
end Go.Proofs.YtljldbdjkjllhaaGreatDoor

/- A name is taken. -/
namespace Go.Proofs.YtljldbdjkjllhaaGreatDoor
set_option linter.unusedSimpArgs false
set_option linter.unusedVariables false
open Go.RowKit

section
variable {w : World} {B g : Nat} {r : Bs} {v1 v2 v3 v4 : Value}
theorem nameR_big {r : Bs} (h : ¬ (0 < nameN r ∧ nameN r ≤ 60)) : nameR r = .error 100 := by unfold nameR; rw [if_neg h]
theorem nameR_take {c : UInt8} {r : Bs} (hc : r[0]? = some c) (hf : xFirst c = true) (h6 : (r.takeWhile xOf).length ≤ 60) :
    0 < (r.takeWhile xOf).length ∧ nameN r = (r.takeWhile xOf).length ∧ nameR r = .ok (r.takeWhile xOf, r.dropWhile xOf) ∧ takeR (r.takeWhile xOf).length r = .ok (r.takeWhile xOf, r.dropWhile xOf) := by
  have hn : nameN r = (r.takeWhile xOf).length := by rw [nameN_first c hc, if_pos hf]
  have hp : 0 < (r.takeWhile xOf).length := by
    cases r with
    | nil => cases hc
    | cons b t =>
      injection hc with hc; subst hc
      rw [List.takeWhile_cons, if_pos (by unfold xOf; rw [hf]; simp)]
      simp
  have ht : takeR (r.takeWhile xOf).length r = .ok (r.takeWhile xOf, r.dropWhile xOf) := by
    unfold takeR
    rw [← take_of_while, ← drop_of_while, if_pos (while_may r)]
  refine ⟨hp, hn, ?_, ht⟩
  unfold nameR
  rw [hn, if_pos ⟨hp, h6⟩, ht]
set_option maxHeartbeats 2000000 in
set_option maxRecDepth 100000 in
theorem name_any (h : RdB w g r v1 v2 v3 v4) (hr : r.length ≤ 40000) :
    Calls Tryz.prog 158 #[.pointer (some ⟨g, 0, none⟩)] w (Ate w g v1 v2 v3 v4 (nameR r) sV) := by
  have HR := Lib.hid h
  have CX := Lib.hid (must_no 100)
  have CY := Lib.hid (must_yes 100)
  have c0 := Blk.cell h 0
  simp at c0
  cases hrc : r with
  | nil =>
    have HE : Hid (nameR r = .error 100) := nameR_big (by rw [hrc]; simp [nameN])
    rw [← hrc]
    have hemp : (mkS r).toList.isEmpty = true := by rw [isEmpty_mkS, hrc]; rfl
    clear hrc h hr
    generalize nameR r = res at *
    generalize mkS r = S at *
    go_enter Tryz.func158, Tryz.ntmps158
    go_wp2_with fail
    refine (CX.out _).mono ?_
    rintro e w2 ⟨rfl, rfl⟩
    unfold gaveUp
    go_wp2_with fail
    exact ⟨rfl, Ate.mkNo (Turned.refl _ _) HR.out HE.out⟩
  | cons c t =>
    have hc : r[0]? = some c := by rw [hrc]; rfl
    rw [← hrc]
    have hemp : (mkS r).toList.isEmpty = false := by rw [isEmpty_mkS, hrc]; rfl
    have h0 : 0 < (mkS r).size := by rw [mkS_size, hrc]; simp
    have h00 : (mkS r)[0]'h0 = c := by
      have := byte_at h0
      rw [mkS_list, hc] at this
      injection this with this; exact this.symm
    have CF := Lib.hid (isFirst_any c)
    have CS := Lib.hid (fun w => span_of (mkS r) (by rw [mkS_size]; unfold maxLen; omega) w)
    rw [mkS_list] at CS
    have CT := Lib.hid (take_any h (r.takeWhile xOf).length (while_le r) hr)
    clear hrc
    cases hf : xFirst c with
    | false =>
      have HE : Hid (nameR r = .error 100) := nameR_big (by rw [nameN_first c hc, hf]; simp)
      rw [hf] at CF
      clear hc h hr hf CT CS
      generalize nameR r = res at *
      generalize mkS r = S at *
      go_enter Tryz.func158, Tryz.ntmps158
      go_wp2_with fail
      refine (CF.out _).mono ?_
      rintro e w2 ⟨rfl, rfl⟩
      go_wp2_with fail
      refine (CX.out _).mono ?_
      rintro e w2 ⟨rfl, rfl⟩
      unfold gaveUp
      go_wp2_with fail
      exact ⟨rfl, Ate.mkNo (Turned.refl _ _) HR.out HE.out⟩
    | true =>
      rw [hf] at CF
      by_cases h6 : (r.takeWhile xOf).length ≤ 60
      · obtain ⟨hp, hn, he, ht⟩ := nameR_take hc hf h6
        have HE := Lib.hid he
        have HT := Lib.hid ht
        have CC := Lib.hid (fun w => clone_any (mkS (r.takeWhile xOf)) w (by rw [mkS_size]; omega))
        clear he ht hn hc h hr hf
        generalize nameR r = res at *
        generalize r.dropWhile xOf = D at *
        generalize hL : (r.takeWhile xOf).length = n at *
        clear hL
        generalize r.takeWhile xOf = T at *
        generalize takeR n r = res2 at *
        generalize mkS r = S at *
        have hq1 : (0 : Int) < (n : Int) := by omega
        have hq2 : (n : Int) ≤ 60 := by omega
        clear hp h6
        go_enter Tryz.func158, Tryz.ntmps158
        go_wp2_with fail
        refine (CF.out _).mono ?_
        rintro e w2 ⟨rfl, rfl⟩
        go_wp2_with fail
        refine (CS.out _).mono ?_
        rintro e w2 ⟨rfl, rfl⟩
        go_wp2_with fail
        refine (CY.out _).mono ?_
        rintro e w2 ⟨rfl, rfl⟩
        go_wp2_with fail
        refine CT.out.mono ?_
        intro e w3 ha
        obtain ⟨h1, h2, rfl⟩ := ha.ok HT.out
        have H1 := Lib.hid h1
        have H2 := Lib.hid h2
        clear ha h1 h2
        unfold sV
        go_wp2_with fail
        refine (CC.out _).mono ?_
        rintro e w4 ⟨rfl, hb⟩
        obtain ⟨h1, h2⟩ := RdB.later H2.out hb
        have H3 := Lib.hid h1
        have H4 := Lib.hid (H1.out.trans h2 (frG _ _))
        clear hb h1 h2
        go_wp2_with fail
        go_ret
        exact Ate.mkOk H4.out H3.out HE.out
      · have HE : Hid (nameR r = .error 100) := nameR_big (by rw [nameN_first c hc, hf]; simp; omega)
        clear hc h hr hf CT
        generalize nameR r = res at *
        generalize (r.takeWhile xOf).length = n at *
        generalize mkS r = S at *
        have hq1 : (0 : Int) < (n : Int) := by omega
        have hq2 : ¬ (n : Int) ≤ 60 := by omega
        have hq3 : decide ((n : Int) ≤ 60) = false := decide_eq_false hq2
        clear h6
        go_enter Tryz.func158, Tryz.ntmps158
        go_wp2_with fail
        refine (CF.out _).mono ?_
        rintro e w2 ⟨rfl, rfl⟩
        go_wp2_with fail
        refine (CS.out _).mono ?_
        rintro e w2 ⟨rfl, rfl⟩
        go_wp2_with fail
        refine (CX.out _).mono ?_
        rintro e w2 ⟨rfl, rfl⟩
        unfold gaveUp
        go_wp2_with fail
        exact ⟨rfl, Ate.mkNo (Turned.refl _ _) HR.out HE.out⟩
end
end Go.Proofs.YtljldbdjkjllhaaGreatDoor

/- A character by its number, and by its name; an entity. -/
namespace Go.Proofs.YtljldbdjkjllhaaGreatDoor
set_option linter.unusedSimpArgs false
set_option linter.unusedVariables false
open Go.RowKit

theorem numX_lt (b : Nat) : ∀ (l : Bs) (acc n : Nat), numX b acc l = some n → n < (acc + 1) * b ^ l.length
  | [], acc, n, h => by injection h with h; subst h; simp
  | c :: r, acc, n, h => by
    rw [numX] at h
    split at h
    · rename_i hd
      have := numX_lt b r _ n h
      have h2 : (acc * b + digX c + 1) * b ^ r.length ≤ ((acc + 1) * b) * b ^ r.length := Nat.mul_le_mul_right _ (by rw [Nat.add_mul, Nat.one_mul]; omega)
      rw [List.length_cons, Nat.pow_succ, Nat.mul_comm (b ^ r.length) b, ← Nat.mul_assoc]
      omega
    · cases h
theorem uintX_lt {b : Nat} {t : ByteArray} (hb : BaseX b t) {n : Nat} (h : uintX b t.data.toList = some n) : n < 16777216 := by
  unfold uintX at h
  split at h
  · cases h
  · have h1 := numX_lt b _ 0 n h
    rw [Nat.zero_add, Nat.one_mul, size_len] at h1
    rcases hb with ⟨rfl, hz⟩ | ⟨rfl, hz⟩
    · have : 10 ^ t.size ≤ 10 ^ 7 := Nat.pow_le_pow_right (by decide) hz
      omega
    · have : 16 ^ t.size ≤ 16 ^ 6 := Nat.pow_le_pow_right (by decide) hz
      omega
def numE (n : Nat) : Option Nat := if standsX n = true then some n else none
theorem numR_eq (b m : Nat) (d : Bs) : numR b m d = if m < d.length then none else (uintX b d).bind numE := by
  unfold numR
  split
  · rfl
  · cases uintX b d with
    | none => rfl
    | some n => rw [Option.bind_some, numE]
def chV : Option Nat → Value
  | some n => .tuple #[.int .i32 (n : Int), .bool true]
  | none => .tuple #[.int .i32 0, .bool false]
set_option maxHeartbeats 2000000 in
set_option maxRecDepth 100000 in
theorem numbered_any (b m : Nat) (t : ByteArray) (hbm : (b = 10 ∧ m = 7) ∨ (b = 16 ∧ m = 6)) {B : Nat} {w : World} (hE : XEnv B w) (hz : t.size ≤ 40000) :
    Calls Tryz.prog 244 #[.string t, .int .i64 (b : Int), .int .i64 (m : Int)] w fun e w' => e = .returned (chV (numR b m t.data.toList)) ∧ Below w.heap.size w w' := by
  have hl : t.data.toList.length = t.size := size_len t
  by_cases hlen : m < t.size
  · have HE : Hid (numR b m t.data.toList = none) := by show numR b m _ = none; rw [numR_eq, if_pos (by omega)]
    have hz1 : (m : Int) < (t.size : Int) := by omega
    clear hlen hl hE hbm
    go_enter Tryz.func244, Tryz.ntmps244
    go_wp2_with fail
    go_ret2
    exact ⟨by rw [HE.out]; rfl, Below.refl _ _⟩
  · have hb : BaseX b t := by
      rcases hbm with ⟨rfl, rfl⟩ | ⟨rfl, rfl⟩
      · exact .inl ⟨rfl, by omega⟩
      · exact .inr ⟨rfl, by omega⟩
    have C := Lib.hid (pu_any b t hb hE)
    have HE : Hid (numR b m t.data.toList = (uintX b t.data.toList).bind numE) := by show numR b m _ = _; rw [numR_eq, if_neg (by omega)]
    have hz1 : ¬ (m : Int) < (t.size : Int) := by omega
    have hlt := fun n (h : uintX b t.data.toList = some n) => uintX_lt hb h
    clear hlen hl hE hbm hb
    generalize numR b m t.data.toList = res at *
    unfold PuEnds at C
    cases hu : uintX b t.data.toList with
    | none =>
      rw [hu] at C HE
      clear hlt hu
      go_enter Tryz.func244, Tryz.ntmps244
      go_wp2_with fail
      refine C.out.mono ?_
      rintro e w1 ⟨⟨N, rfl⟩, hb⟩
      have HB := Lib.hid hb
      clear hb C
      go_wp2_with fail
      go_ret2
      exact ⟨by rw [HE.out]; rfl, HB.out⟩
    | some n =>
      rw [hu] at C HE
      have hn := hlt n hu
      have HE : Hid (res = if standsX n = true then some n else none) := by show res = _; rw [HE.out, Option.bind_some, numE]
      clear hlt hu
      have CV := Lib.hid (fun w => Tryz.utf8_ValidRune (n : Int) w)
      have HS : Hid (standsX n = (Lib.validRune (n : Int) && (decide (32 ≤ n) || xLay n.toUInt8))) := rfl
      generalize standsX n = sx at *
      generalize Lib.validRune (n : Int) = vx at *
      have hcv : IntKind.i32.wrap (n : Int) = (n : Int) := by rw [IntKind.wrap_i32]; omega
      cases vx with
      | false =>
        have HE2 : Hid (res = none) := by show res = none; rw [HE.out, HS.out]; rfl
        clear HE HS
        go_enter Tryz.func244, Tryz.ntmps244
        go_wp2_with fail
        refine C.out.mono ?_
        rintro e w1 ⟨rfl, hb⟩
        have HB := Lib.hid hb
        clear hb C
        go_wp2_with fail
        refine (CV.out _).mono ?_
        rintro e w2 ⟨rfl, rfl⟩
        go_wp2_with fail
        go_ret2
        exact ⟨by rw [HE2.out]; rfl, HB.out⟩
      | true =>
        by_cases h32 : 32 ≤ n
        · have HE2 : Hid (res = some n) := by show res = some n; rw [HE.out, HS.out]; simp [h32]
          have hq : ¬ (n : Int) < 32 := by omega
          have hq2 : decide ((n : Int) < 32) = false := decide_eq_false hq
          clear HE HS h32
          go_enter Tryz.func244, Tryz.ntmps244
          go_wp2_with fail
          refine C.out.mono ?_
          rintro e w1 ⟨rfl, hb⟩
          have HB := Lib.hid hb
          clear hb C
          go_wp2_with fail
          refine (CV.out _).mono ?_
          rintro e w2 ⟨rfl, rfl⟩
          go_wp2_with fail
          go_ret2
          exact ⟨by rw [HE2.out]; rfl, HB.out⟩
        · have hn8 : n.toUInt8.toNat = n := by simp; omega
          have CL := Lib.hid (isLayout_any n.toUInt8)
          rw [hn8] at CL
          have HE2 : Hid (res = if xLay n.toUInt8 = true then some n else none) := by show res = _; rw [HE.out, HS.out]; simp [h32]
          have hq : (n : Int) < 32 := by omega
          have hq2 : decide ((n : Int) < 32) = true := decide_eq_true hq
          clear HE HS h32 hn8
          generalize xLay n.toUInt8 = lx at *
          cases lx
          all_goals
            go_enter Tryz.func244, Tryz.ntmps244
            go_wp2_with fail
            refine C.out.mono ?_
            rintro e w1 ⟨rfl, hb⟩
            have HB := Lib.hid hb
            clear hb C
            go_wp2_with fail
            refine (CV.out _).mono ?_
            rintro e w2 ⟨rfl, rfl⟩
            go_wp2_with fail
            refine (CL.out _).mono ?_
            rintro e w2 ⟨rfl, rfl⟩
            go_wp2_with fail
            go_ret2
            exact ⟨by rw [HE2.out]; rfl, HB.out⟩
end Go.Proofs.YtljldbdjkjllhaaGreatDoor

/- A character by its name; an entity. -/
namespace Go.Proofs.YtljldbdjkjllhaaGreatDoor
set_option linter.unusedSimpArgs false
set_option linter.unusedVariables false
open Go.RowKit

def findE (nm : Bs) : List (Bs × UInt8) → Option Nat
  | [] => charH nm
  | e :: r => if e.1 = nm then some e.2.toNat else findE nm r
theorem findE_eq (nm : Bs) : ∀ l : List (Bs × UInt8), (match l.find? (fun e => decide (e.1 = nm)) with
    | some e => some e.2.toNat
    | none => charH nm) = findE nm l
  | [] => rfl
  | e :: r => by
    rw [List.find?_cons, findE]
    by_cases h : e.1 = nm
    · rw [if_pos h, decide_eq_true h]
    · rw [if_neg h, decide_eq_false h]
      exact findE_eq nm r
theorem charR_find (nm : Bs) : charR nm = findE nm ents := by
  unfold charR
  exact findE_eq nm ents
theorem str_yes' {a b : ByteArray} (h : a = b) : (a.toList == b.toList) = true := by subst h; simp
theorem mkS_inj {a b : Bs} (h : mkS a = mkS b) : a = b := by
  have := congrArg (fun s : ByteArray => s.data.toList) h
  exact this
set_option maxHeartbeats 4000000 in
set_option maxRecDepth 100000 in
theorem character_any (nm : Bs) (hz : nm.length ≤ 40000) {B : Nat} {w : World} (hE : XEnv B w) :
    Calls Tryz.prog 206 #[.string (mkS nm)] w fun e w' => e = .returned (chV (charR nm)) ∧ Below w.heap.size w w' := by
  obtain ⟨t0, hB⟩ := hE.ents
  have c0 := hB.cell 0
  have c1 := hB.cell 1
  have c2 := hB.cell 2
  have c3 := hB.cell 3
  have c4 := hB.cell 4
  have c5 := hB.cell 5
  have c6 := hB.cell 6
  have c7 := hB.cell 7
  have c8 := hB.cell 8
  have c9 := hB.cell 9
  simp at c0 c1 c2 c3 c4 c5 c6 c7 c8 c9
  obtain ⟨a0, ha0⟩ : ∃ a, a = mkS [108, 116] := ⟨_, rfl⟩
  obtain ⟨a1, ha1⟩ : ∃ a, a = mkS [103, 116] := ⟨_, rfl⟩
  obtain ⟨a2, ha2⟩ : ∃ a, a = mkS [97, 109, 112] := ⟨_, rfl⟩
  obtain ⟨a3, ha3⟩ : ∃ a, a = mkS [113, 117, 111, 116] := ⟨_, rfl⟩
  obtain ⟨a4, ha4⟩ : ∃ a, a = mkS [97, 112, 111, 115] := ⟨_, rfl⟩
  rw [← ha0] at c0
  rw [← ha1] at c2
  rw [← ha2] at c4
  rw [← ha3] at c6
  rw [← ha4] at c8
  have ix0 : ∀ w, (Instr.index 92 (.agg #[.string a0, .int .u8 60, .string a1, .int .u8 62, .string a2, .int .u8 38, .string a3, .int .u8 34, .string a4, .int .u8 39]) (.int .i64 0)).run Tryz.prog w = .ok (.agg #[.string a0, .int .u8 60]) w := fun _ => by kernel_rfl
  have ix1 : ∀ w, (Instr.index 92 (.agg #[.string a0, .int .u8 60, .string a1, .int .u8 62, .string a2, .int .u8 38, .string a3, .int .u8 34, .string a4, .int .u8 39]) (.int .i64 1)).run Tryz.prog w = .ok (.agg #[.string a1, .int .u8 62]) w := fun _ => by kernel_rfl
  have ix2 : ∀ w, (Instr.index 92 (.agg #[.string a0, .int .u8 60, .string a1, .int .u8 62, .string a2, .int .u8 38, .string a3, .int .u8 34, .string a4, .int .u8 39]) (.int .i64 2)).run Tryz.prog w = .ok (.agg #[.string a2, .int .u8 38]) w := fun _ => by kernel_rfl
  have ix3 : ∀ w, (Instr.index 92 (.agg #[.string a0, .int .u8 60, .string a1, .int .u8 62, .string a2, .int .u8 38, .string a3, .int .u8 34, .string a4, .int .u8 39]) (.int .i64 3)).run Tryz.prog w = .ok (.agg #[.string a3, .int .u8 34]) w := fun _ => by kernel_rfl
  have ix4 : ∀ w, (Instr.index 92 (.agg #[.string a0, .int .u8 60, .string a1, .int .u8 62, .string a2, .int .u8 38, .string a3, .int .u8 34, .string a4, .int .u8 39]) (.int .i64 4)).run Tryz.prog w = .ok (.agg #[.string a4, .int .u8 39]) w := fun _ => by kernel_rfl
  have HF : Hid (charR nm = findE nm (ents.drop 0)) := charR_find nm
  have CN := Lib.hid (fun b m (t : ByteArray) h w' (hb : Below w.heap.size w w') ht => numbered_any b m t h (hE.below hb) ht)
  have CP := Lib.hid (fun p w => Tryz.strings_CutPrefix (mkS nm) (mkS p) w)
  obtain ⟨res, hres⟩ : ∃ res, res = charR nm := ⟨_, rfl⟩
  have HEQ : Hid (∀ e : Bs, e = nm → mkS e = mkS nm) := fun e h => by rw [h]
  have HNE : Hid (∀ e : Bs, ¬ e = nm → mkS e ≠ mkS nm) := fun e h h2 => h (mkS_inj h2)
  rw [← hres] at HF ⊢
  clear hres hE hB
  obtain ⟨S, hS⟩ : ∃ S, S = mkS nm := ⟨_, rfl⟩
  have HS := Lib.hid hS
  rw [← hS] at CP HEQ HNE ⊢
  clear hS
  have HA0 := Lib.hid ha0
  have HA1 := Lib.hid ha1
  have HA2 := Lib.hid ha2
  have HA3 := Lib.hid ha3
  have HA4 := Lib.hid ha4
  clear ha0 ha1 ha2 ha3 ha4
  go_enter Tryz.func206, Tryz.ntmps206
  go_wp2_with fail
  go_loopg [5, 11] 5 (fun g s5 s11 wx => ∃ k : Nat, k + g = 5 ∧ s11 = .int .i64 (k : Int) ∧ Below w.heap.size w wx ∧ Hid (res = findE nm (ents.drop k)))
  case atStart => exact ⟨0, by omega, rfl, Below.refl _ _, HF⟩
  case round =>
    obtain ⟨k, hkg, rfl, hbe, hn⟩ := hrel
    have HBE := Lib.hid hbe
    have hk' : k = 0 ∨ k = 1 ∨ k = 2 ∨ k = 3 ∨ k = 4 ∨ k = 5 := by omega
    have HKG := Lib.hid hkg
    clear hkg hbe HF
    rcases hk' with rfl | rfl | rfl | rfl | rfl | rfl
    · clear ix1 ix2 ix3 ix4 c0 c1 c2 c3 c4 c5 c6 c7 c8 c9
      have HB2 : Hid (∀ wx, Below w.heap.size w wx → Below w.heap.size w (wx.alloc (.cells #[.string a0, .int .u8 60] 91))) := fun wx h => h.alloc h.size _
      by_cases h : [108, 116] = nm
      · have t1 : (a0.toList == S.toList) = true := str_yes' (by rw [HA0.out]; exact HEQ.out _ h)
        have HV : Hid (res = some 60) := hn.out.trans (if_pos h)
        clear h hn
        go_wp2_with fail
        go_ret2
        exact ⟨by rw [HV.out]; rfl, HB2.out _ HBE.out⟩
      · have t1 : (a0.toList == S.toList) = false := str_ne (by rw [HA0.out]; exact HNE.out _ h)
        have HV : Hid (res = findE nm (ents.drop 1)) := hn.out.trans (if_neg h)
        clear h hn
        go_wp2_with fail
        go_roundg (gk - 1)
        case measure => have := HKG.out; omega
        case rel => exact ⟨1, by have := HKG.out; omega, rfl, HB2.out _ HBE.out, HV⟩
    · clear ix0 ix2 ix3 ix4 c0 c1 c2 c3 c4 c5 c6 c7 c8 c9
      have HB2 : Hid (∀ wx, Below w.heap.size w wx → Below w.heap.size w (wx.alloc (.cells #[.string a1, .int .u8 62] 91))) := fun wx h => h.alloc h.size _
      by_cases h : [103, 116] = nm
      · have t1 : (a1.toList == S.toList) = true := str_yes' (by rw [HA1.out]; exact HEQ.out _ h)
        have HV : Hid (res = some 62) := hn.out.trans (if_pos h)
        clear h hn
        go_wp2_with fail
        go_ret2
        exact ⟨by rw [HV.out]; rfl, HB2.out _ HBE.out⟩
      · have t1 : (a1.toList == S.toList) = false := str_ne (by rw [HA1.out]; exact HNE.out _ h)
        have HV : Hid (res = findE nm (ents.drop 2)) := hn.out.trans (if_neg h)
        clear h hn
        go_wp2_with fail
        go_roundg (gk - 1)
        case measure => have := HKG.out; omega
        case rel => exact ⟨2, by have := HKG.out; omega, rfl, HB2.out _ HBE.out, HV⟩
    · clear ix0 ix1 ix3 ix4 c0 c1 c2 c3 c4 c5 c6 c7 c8 c9
      have HB2 : Hid (∀ wx, Below w.heap.size w wx → Below w.heap.size w (wx.alloc (.cells #[.string a2, .int .u8 38] 91))) := fun wx h => h.alloc h.size _
      by_cases h : [97, 109, 112] = nm
      · have t1 : (a2.toList == S.toList) = true := str_yes' (by rw [HA2.out]; exact HEQ.out _ h)
        have HV : Hid (res = some 38) := hn.out.trans (if_pos h)
        clear h hn
        go_wp2_with fail
        go_ret2
        exact ⟨by rw [HV.out]; rfl, HB2.out _ HBE.out⟩
      · have t1 : (a2.toList == S.toList) = false := str_ne (by rw [HA2.out]; exact HNE.out _ h)
        have HV : Hid (res = findE nm (ents.drop 3)) := hn.out.trans (if_neg h)
        clear h hn
        go_wp2_with fail
        go_roundg (gk - 1)
        case measure => have := HKG.out; omega
        case rel => exact ⟨3, by have := HKG.out; omega, rfl, HB2.out _ HBE.out, HV⟩
    · clear ix0 ix1 ix2 ix4 c0 c1 c2 c3 c4 c5 c6 c7 c8 c9
      have HB2 : Hid (∀ wx, Below w.heap.size w wx → Below w.heap.size w (wx.alloc (.cells #[.string a3, .int .u8 34] 91))) := fun wx h => h.alloc h.size _
      by_cases h : [113, 117, 111, 116] = nm
      · have t1 : (a3.toList == S.toList) = true := str_yes' (by rw [HA3.out]; exact HEQ.out _ h)
        have HV : Hid (res = some 34) := hn.out.trans (if_pos h)
        clear h hn
        go_wp2_with fail
        go_ret2
        exact ⟨by rw [HV.out]; rfl, HB2.out _ HBE.out⟩
      · have t1 : (a3.toList == S.toList) = false := str_ne (by rw [HA3.out]; exact HNE.out _ h)
        have HV : Hid (res = findE nm (ents.drop 4)) := hn.out.trans (if_neg h)
        clear h hn
        go_wp2_with fail
        go_roundg (gk - 1)
        case measure => have := HKG.out; omega
        case rel => exact ⟨4, by have := HKG.out; omega, rfl, HB2.out _ HBE.out, HV⟩
    · clear ix0 ix1 ix2 ix3 c0 c1 c2 c3 c4 c5 c6 c7 c8 c9
      have HB2 : Hid (∀ wx, Below w.heap.size w wx → Below w.heap.size w (wx.alloc (.cells #[.string a4, .int .u8 39] 91))) := fun wx h => h.alloc h.size _
      by_cases h : [97, 112, 111, 115] = nm
      · have t1 : (a4.toList == S.toList) = true := str_yes' (by rw [HA4.out]; exact HEQ.out _ h)
        have HV : Hid (res = some 39) := hn.out.trans (if_pos h)
        clear h hn
        go_wp2_with fail
        go_ret2
        exact ⟨by rw [HV.out]; rfl, HB2.out _ HBE.out⟩
      · have t1 : (a4.toList == S.toList) = false := str_ne (by rw [HA4.out]; exact HNE.out _ h)
        have HV : Hid (res = findE nm (ents.drop 5)) := hn.out.trans (if_neg h)
        clear h hn
        go_wp2_with fail
        go_roundg (gk - 1)
        case measure => have := HKG.out; omega
        case rel => exact ⟨5, by have := HKG.out; omega, rfl, HB2.out _ HBE.out, HV⟩
    · have HV : Hid (res = charH nm) := hn.out
      clear hn ix0 ix1 ix2 ix3 ix4 c0 c1 c2 c3 c4 c5 c6 c7 c8 c9
      have HC : Hid (charH nm = if Lib.hasPrefix nm [35, 120] = true then numR 16 6 (Lib.trimPrefix nm [35, 120]) else if Lib.hasPrefix nm [35] = true then numR 10 7 (Lib.trimPrefix nm [35]) else none) := rfl
      have CP1 := Lib.hid (CP.out [35, 120])
      have CP2 := Lib.hid (CP.out [35])
      rw [HS.out, mkS_list, mkS_list, ← HS.out] at CP1 CP2
      have hz1 := trim_len nm [35, 120]
      have hz2 := trim_len nm [35]
      have CN1 := Lib.hid (fun w' hb => CN.out 16 6 (mkS (Lib.trimPrefix nm [35, 120])) (.inr ⟨rfl, rfl⟩) w' hb (by rw [mkS_size]; omega))
      have CN2 := Lib.hid (fun w' hb => CN.out 10 7 (mkS (Lib.trimPrefix nm [35])) (.inl ⟨rfl, rfl⟩) w' hb (by rw [mkS_size]; omega))
      rw [mkS_list] at CN1 CN2
      clear hz1 hz2 CN CP hz HEQ HNE
      generalize charH nm = ch at *
      generalize numR 16 6 _ = r1 at *
      generalize numR 10 7 _ = r2 at *
      generalize Lib.trimPrefix nm [35, 120] = d1 at *
      generalize Lib.trimPrefix nm [35] = d2 at *
      generalize Lib.hasPrefix nm [35, 120] = b1 at *
      generalize Lib.hasPrefix nm [35] = b2 at *
      cases b1 with
      | true =>
        have HV2 : Hid (res = r1) := HV.out.trans HC.out
        clear HV HC CN2 CP2
        go_wp2_with fail
        refine (CP1.out _).mono ?_
        rintro e w1 ⟨rfl, rfl⟩
        have CN3 := Lib.hid (CN1.out _ HBE.out)
        go_wp2_with fail
        refine CN3.out.mono ?_
        rintro e w2 ⟨rfl, hb⟩
        have HB3 := Lib.hid (HBE.out.trans (hb.mono HBE.out.size))
        clear hb CN3 CN1
        cases r1 with
        | none =>
          unfold chV
          go_wp2_with fail
          go_ret2
          exact ⟨by rw [HV2.out]; rfl, HB3.out⟩
        | some n =>
          unfold chV
          go_wp2_with fail
          go_ret2
          exact ⟨by rw [HV2.out]; rfl, HB3.out⟩
      | false =>
        cases b2 with
        | true =>
          have HV2 : Hid (res = r2) := HV.out.trans HC.out
          clear HV HC CN1
          go_wp2_with fail
          refine (CP1.out _).mono ?_
          rintro e w1 ⟨rfl, rfl⟩
          go_wp2_with fail
          refine (CP2.out _).mono ?_
          rintro e w1 ⟨rfl, rfl⟩
          have CN3 := Lib.hid (CN2.out _ HBE.out)
          go_wp2_with fail
          refine CN3.out.mono ?_
          rintro e w2 ⟨rfl, hb⟩
          have HB3 := Lib.hid (HBE.out.trans (hb.mono HBE.out.size))
          clear hb CN3 CN2
          cases r2 with
          | none =>
            unfold chV
            go_wp2_with fail
            go_ret2
            exact ⟨by rw [HV2.out]; rfl, HB3.out⟩
          | some n =>
            unfold chV
            go_wp2_with fail
            go_ret2
            exact ⟨by rw [HV2.out]; rfl, HB3.out⟩
        | false =>
          have HV2 : Hid (res = none) := HV.out.trans HC.out
          clear HV HC CN1 CN2
          go_wp2_with fail
          refine (CP1.out _).mono ?_
          rintro e w1 ⟨rfl, rfl⟩
          go_wp2_with fail
          refine (CP2.out _).mono ?_
          rintro e w1 ⟨rfl, rfl⟩
          go_wp2_with fail
          go_ret2
          exact ⟨by rw [HV2.out]; rfl, HBE.out⟩
end Go.Proofs.YtljldbdjkjllhaaGreatDoor

/- An entity is taken. -/
namespace Go.Proofs.YtljldbdjkjllhaaGreatDoor
set_option linter.unusedSimpArgs false
set_option linter.unusedVariables false
open Go.RowKit

section
variable {w : World} {B g : Nat} {r : Bs} {v1 v2 v3 v4 : Value}
def rV (n : Nat) : Value := .int .i32 (n : Int)
theorem cut1_len (l : Bs) : (Lib.cut l [59]).1.length ≤ l.length := by
  unfold Lib.cut
  split
  · show (l.take _).length ≤ _; simp; omega
  · exact Nat.le_refl _
theorem entityR_eq (l : Bs) : entityR l = if (Lib.cut l [59]).2.2 = true then (match charR (Lib.cut l [59]).1 with
    | some c => .ok (c, (Lib.cut l [59]).2.1)
    | none => .error 103) else .error 103 := rfl
theorem entityR_no {l : Bs} (h : (Lib.cut l [59]).2.2 = false) : entityR l = .error 103 := by rw [entityR_eq, h]; rfl
theorem entityR_none {l : Bs} (h : charR (Lib.cut l [59]).1 = none) : entityR l = .error 103 := by
  rw [entityR_eq, h]
  split <;> rfl
theorem entityR_some {l : Bs} (h : (Lib.cut l [59]).2.2 = true) {c : Nat} (hc : charR (Lib.cut l [59]).1 = some c) : entityR l = .ok (c, (Lib.cut l [59]).2.1) := by rw [entityR_eq, h, hc]; rfl
set_option maxHeartbeats 2000000 in
set_option maxRecDepth 100000 in
theorem entity_any (h : RdB w g r v1 v2 v3 v4) (hE : XEnv B w) (hr : r.length ≤ 40000) :
    Calls Tryz.prog 156 #[.pointer (some ⟨g, 0, none⟩)] w (Ate w g v1 v2 v3 v4 (entityR r) rV) := by
  obtain ⟨m, hm⟩ := hE.max
  have C := Lib.hid (Tryz.strings_Cut (mkS r) (mkS [59]) m w (by rw [mkS_size]; omega) hm)
  rw [show (mkS r).data.toList = r from rfl, show (mkS [59]).data.toList = [59] from rfl] at C
  have hl := cut1_len r
  have CC := Lib.hid (fun n => character_any (Lib.cut r [59]).1 (by omega) (hE.below ((below_drewN' (Below.refl w.heap.size w) n))))
  have HR := Lib.hid h
  have CY := Lib.hid (must_yes 103)
  have CX := Lib.hid (must_no 103)
  have c0 := Blk.cell h 0
  simp at c0
  have hno := Lib.hid (@entityR_no r)
  have hnone := Lib.hid (@entityR_none r)
  have hsome := Lib.hid (@entityR_some r)
  clear hm hE h hl hr
  have e59 : mkS [59] = ⟨#[59]⟩ := rfl
  rw [e59] at C
  clear e59
  generalize entityR r = res at *
  generalize (Lib.cut r [59]).1 = nm at *
  generalize (Lib.cut r [59]).2.1 = rest at *
  generalize (Lib.cut r [59]).2.2 = cl at *
  generalize charR nm = ch at *
  have HV : Hid (∀ w3, Turned [g] w w3 → RdB w3 g r v1 v2 v3 v4 → Turned [g] w (w3.setCell ⟨g, 0, none⟩ (.string (mkS rest))) ∧ RdB (w3.setCell ⟨g, 0, none⟩ (.string (mkS rest))) g rest v1 v2 v3 v4) := fun w3 ht hr => ⟨ht.setCell (.inl (by simp)) _, hr.set_ _⟩
  unfold mkS at C CC
  go_enter Tryz.func156, Tryz.ntmps156
  go_wp2_with fail
  refine C.out.mono ?_
  rintro e w1 ⟨rfl, n, rfl⟩
  have CC1 := Lib.hid (CC.out n)
  clear C CC
  go_wp2_with fail
  refine CC1.out.mono ?_
  rintro e w2 ⟨rfl, hb⟩
  have hb2 : Below w.heap.size w w2 := (below_drewN' (Below.refl w.heap.size w) n).trans hb
  obtain ⟨h1, h2⟩ := RdB.later HR.out hb2
  have H1 := Lib.hid h1
  have H2 := Lib.hid h2
  have c1 := Blk.cell h1 0
  have f1 := Blk.free h1 0
  simp at c1
  clear hb hb2 h1 h2 CC1
  cases ch with
  | none =>
    have HE : Hid (res = .error 103) := hnone.out rfl
    cases cl
    all_goals
      unfold chV
      go_wp2_with fail
      refine (CX.out _).mono ?_
      rintro e w3 ⟨rfl, rfl⟩
      unfold gaveUp
      go_wp2_with fail
      exact ⟨rfl, Ate.mkNo H2.out H1.out HE.out⟩
  | some c =>
    cases cl with
    | false =>
      have HE : Hid (res = .error 103) := hno.out rfl
      unfold chV
      go_wp2_with fail
      refine (CX.out _).mono ?_
      rintro e w3 ⟨rfl, rfl⟩
      unfold gaveUp
      go_wp2_with fail
      exact ⟨rfl, Ate.mkNo H2.out H1.out HE.out⟩
    | true =>
      have HE : Hid (res = .ok (c, rest)) := hsome.out rfl rfl
      have HV2 := Lib.hid (HV.out w2 H2.out H1.out)
      unfold mkS at HV2
      unfold chV
      go_wp2_with fail
      refine (CY.out _).mono ?_
      rintro e w3 ⟨rfl, rfl⟩
      go_wp2_with fail
      go_ret
      exact Ate.mkOk HV2.out.1 HV2.out.2 HE.out
end
end Go.Proofs.YtljldbdjkjllhaaGreatDoor

/- Labels in a scope; a row of bytes that a call appends to while it takes from a reader. -/
namespace Go.Proofs.YtljldbdjkjllhaaGreatDoor
set_option linter.unusedSimpArgs false
set_option linter.unusedVariables false
open Go

def jumpM (R : Nat → Act → World → Prop) (Q : Exit → Act → World → Prop) : Exit → Act → World → Prop
  | .goto l, a, w => R l a w
  | e, a, w => Q e a w
/-- A scope with labels: what holds at each of them, and a number that falls. -/
theorem wp_scope_many {P : Program} {a : Act} {w : World} {Q : Exit → Act → World → Prop} {c : Code} (rest : Nat → Code) (J : Nat → Nat → Act → World → Prop)
    (hf : ∀ l n a w, J l n a w → findLabel c l = some (rest l))
    (pass : ∀ l n a w, J l n a w → (rest l).wp P (jumpM (fun l' a' w' => ∃ m, m < n ∧ J l' m a' w') Q) a w)
    (first : c.wp P (jumpM (fun l' a' w' => ∃ m, J l' m a' w') Q) a w) : (Code.scope c).wp P Q a w := by
  intro b k cs
  have hg : ∀ l, findLabel c l = some (rest l) → gotoIn l (.inScope c :: k) = some (.code (rest l) :: .inScope c :: k) := fun l h => by simp [gotoIn, h]
  have key : ∀ n l a w, J l n a w → ∃ e a' w', Q e a' w' ∧ Arrives P (lone (b.at a (.code (rest l) :: .inScope c :: k)) cs w) b k cs e a' w' := by
    intro n
    induction n using Nat.strongRecOn with
    | _ n ih =>
      intro l a w hJ
      obtain ⟨e, a₁, w₁, hq, harr⟩ := pass l n a w hJ b (.inScope c :: k) cs
      cases e with
      | normal => exact ⟨.normal, a₁, w₁, hq, Steps.trans harr (.one step_inScope)⟩
      | exit id => exact ⟨.exit id, a₁, w₁, hq, fun k' hk => harr k' (by simp [exitTo, hk])⟩
      | goto l' =>
        obtain ⟨m, hm, hJ'⟩ := hq
        obtain ⟨e₂, a₂, w₂, hq₂, harr₂⟩ := ih m hm l' a₁ w₁ hJ'
        exact ⟨e₂, a₂, w₂, hq₂, .of_steps (harr _ (hg l' (hf _ _ _ _ hJ'))) harr₂⟩
      | ret => exact ⟨_, a₁, w₁, hq, harr⟩
      | panic ch => exact ⟨_, a₁, w₁, hq, harr⟩
      | outgrown => exact ⟨_, a₁, w₁, hq, harr⟩
  obtain ⟨e, a₁, w₁, hq, harr⟩ := first b (.inScope c :: k) cs
  cases e with
  | normal => exact ⟨.normal, a₁, w₁, hq, .head step_scope (Steps.trans harr (.one step_inScope))⟩
  | exit id => exact ⟨.exit id, a₁, w₁, hq, fun k' hk => .head step_scope (harr k' (by simp [exitTo, hk]))⟩
  | goto l' =>
    obtain ⟨m, hJ'⟩ := hq
    obtain ⟨e₂, a₂, w₂, hq₂, harr₂⟩ := key m l' a₁ w₁ hJ'
    exact ⟨e₂, a₂, w₂, hq₂, .of_steps (.head step_scope (harr _ (hg l' (hf _ _ _ _ hJ')))) harr₂⟩
  | ret => exact ⟨_, a₁, w₁, hq, .of_steps (.one step_scope) harr⟩
  | panic ch => exact ⟨_, a₁, w₁, hq, .of_steps (.one step_scope) harr⟩
  | outgrown => exact ⟨_, a₁, w₁, hq, .of_steps (.one step_scope) harr⟩
/-- .. with five. -/
theorem wp_scope_5 {P : Program} {a : Act} {w : World} {Q : Exit → Act → World → Prop} {c r0 r1 r2 r3 r4 : Code} (J : Nat → Nat → Act → World → Prop) (h0 : findLabel c 0 = some (Code.skip.seq r0)) (h1 : findLabel c 1 = some (Code.skip.seq r1)) (h2 : findLabel c 2 = some (Code.skip.seq r2)) (h3 : findLabel c 3 = some (Code.skip.seq r3)) (h4 : findLabel c 4 = some (Code.skip.seq r4))
    (hJ : ∀ l n a w, J l n a w → l < 5)
    (p0 : ∀ n a w, J 0 n a w → r0.wp P (jumpM (fun l' a' w' => ∃ m, m < n ∧ J l' m a' w') Q) a w)
    (p1 : ∀ n a w, J 1 n a w → r1.wp P (jumpM (fun l' a' w' => ∃ m, m < n ∧ J l' m a' w') Q) a w)
    (p2 : ∀ n a w, J 2 n a w → r2.wp P (jumpM (fun l' a' w' => ∃ m, m < n ∧ J l' m a' w') Q) a w)
    (p3 : ∀ n a w, J 3 n a w → r3.wp P (jumpM (fun l' a' w' => ∃ m, m < n ∧ J l' m a' w') Q) a w)
    (p4 : ∀ n a w, J 4 n a w → r4.wp P (jumpM (fun l' a' w' => ∃ m, m < n ∧ J l' m a' w') Q) a w)
    (first : (∀ n a w, J 0 n a w → r0.wp P (jumpM (fun l' a' w' => ∃ m, J l' m a' w') Q) a w) → c.wp P (jumpM (fun l' a' w' => ∃ m, J l' m a' w') Q) a w) : (Code.scope c).wp P Q a w := by
  refine wp_scope_many (fun l => match l with | 0 => Code.skip.seq r0 | 1 => Code.skip.seq r1 | 2 => Code.skip.seq r2 | 3 => Code.skip.seq r3 | _ => Code.skip.seq r4) J (fun l n a w h => ?_) (fun l n a w h => ?_) (first fun n a w h => ?_)
  · have := hJ _ _ _ _ h
    match l, this with
    | 0, _ => exact h0
    | 1, _ => exact h1
    | 2, _ => exact h2
    | 3, _ => exact h3
    | 4, _ => exact h4
  · have := hJ _ _ _ _ h
    match l, this with
    | 0, _ => exact wp_seq (wp_skip (p0 n a w h))
    | 1, _ => exact wp_seq (wp_skip (p1 n a w h))
    | 2, _ => exact wp_seq (wp_skip (p2 n a w h))
    | 3, _ => exact wp_seq (wp_skip (p3 n a w h))
    | 4, _ => exact wp_seq (wp_skip (p4 n a w h))
  · refine Code.wp_mono (fun e a' w' he => ?_) (p0 n a w h)
    cases e <;> first | exact he | (obtain ⟨m, _, h⟩ := he; exact ⟨m, h⟩)

/-! A row of bytes that is appended to. -/
open Go.RowKit
def u8L (l : Bs) : List Value := l.map fun b => Value.int .u8 b.toNat
theorem u8L_app (a b : Bs) : u8L (a ++ b) = u8L a ++ u8L b := List.map_append
theorem ownF_turned {w w' : World} {F : List Nat} {base size n : Nat} {e : TypeId} {v : Value} {xs : List Value} (h : w.ownsRowF base e size v n xs) (ht : Turned F w w') (hn : ∀ k, v.ownBlock = some k → k ∉ F) : w'.ownsRowF base e size v n xs := by
  refine ⟨h.1, ?_⟩
  rcases h.2 with h2 | ⟨g, cap, cur, fz, rfl, hb, hg, rest⟩
  · exact .inl h2
  · exact .inr ⟨g, cap, cur, fz, rfl, hb, (ht.block g (Array.getElem?_eq_some_iff.1 hg).1 (hn g rfl)).trans hg, rest⟩
theorem ownF_conv {w : World} {base : Nat} {v : Value} {o : Bs} (h : w.ownsRowF base 5 1 v o.length (u8L o)) :
    (convert 46 9 v).run Tryz.prog w = .ok (.string (mkS o)) w := by
  rcases h.2 with ⟨rfl, hz⟩ | ⟨g, cap, cur, fz, rfl, hb, hg, rest⟩
  · have : o = [] := List.eq_nil_of_length_eq_zero hz
    subst this
    rw [run_convert_bytes_string w 46 9 5 none 0 0 Tryz.underlying46 Tryz.underlying5 Tryz.underlying9]
    simp [Conv.bytesToString]
    rfl
  · have hB : Lib.Bytes w g 0 (mkS o) := fun i hi => by
      have hi' : i < o.length := hi
      have := h.cells (g := g) rfl i (.int .u8 (o[i]'hi').toNat) (by unfold u8L; rw [List.getElem?_map, List.getElem?_eq_getElem hi']; rfl)
      have e : (⟨g, 0, none⟩ : Addr).add i = ⟨g, 0 + i, none⟩ := by unfold Addr.add; split <;> simp_all
      rw [e] at this
      exact this
    have := Lib.run_convert_window (P := Tryz.prog) w 46 5 9 Tryz.underlying46 Tryz.underlying5 Tryz.underlying9 g 0 (mkS o) hB 0 o.length cap (by rw [mkS_size]; omega)
    simp only [Nat.zero_add, Nat.add_zero] at this
    rw [this]
    have e2 : (mkS o).extract 0 o.length = mkS o := by rw [mkS_take, List.take_length]
    rw [e2]
structure RunW (w0 : World) (g : Nat) (v1 v2 v3 v4 : Value) (r : Bs) (v : Value) (o : Bs) (w : World) : Prop where
  rd : RdB w g r v1 v2 v3 v4
  row : w.ownsRowF w0.heap.size 5 1 v o.length (u8L o)
  t : Turned [g] w0 w
section
variable {w0 w w' : World} {g : Nat} {v1 v2 v3 v4 v v' : Value} {r r' o : Bs}
theorem RunW.ne (h : RunW w0 g v1 v2 v3 v4 r v o w) : v.ownBlock ≠ some g := Lib.ownBlock_neF h.row h.rd (by decide)
theorem RunW.next (h : RunW w0 g v1 v2 v3 v4 r v o w) (ht : Turned [g] w w') (hr : RdB w' g r' v1 v2 v3 v4) : RunW w0 g v1 v2 v3 v4 r' v o w' :=
  ⟨hr, ownF_turned h.row ht fun k hk hm => by simp at hm; subst hm; exact h.ne hk, h.t.trans ht (frG _ _)⟩
theorem RunW.grown (h : RunW w0 g v1 v2 v3 v4 r v o w) {s : Bs} (hg : w.grownBy w' v.ownBlock) (ho : w'.ownsRowF w0.heap.size 5 1 v' (o.length + s.length) (u8L o ++ u8L s)) : RunW w0 g v1 v2 v3 v4 r v' (o ++ s) w' :=
  ⟨Blk.grown h.rd hg fun e => h.ne e.symm, by rw [List.length_append, u8L_app]; exact ho, h.t.grown hg fun k hk => .inr (h.row.lt k hk).1⟩
theorem RunW.form (h : RunW w0 g v1 v2 v3 v4 r v o w) : ∃ A c, v = .slice A o.length c := by
  rcases h.row.2 with ⟨hv, hz⟩ | ⟨g, cap, cur, fz, hv, _⟩
  · exact ⟨none, 0, by rw [hv, hz]⟩
  · exact ⟨_, _, hv⟩
theorem RunW.size (h : RunW w0 g v1 v2 v3 v4 r v o w) : w0.heap.size ≤ w.heap.size := h.t.size
end
end Go.Proofs.YtljldbdjkjllhaaGreatDoor

/- What a value stands for. -/
namespace Go.Proofs.YtljldbdjkjllhaaGreatDoor
set_option linter.unusedSimpArgs false
set_option linter.unusedVariables false
open Go.RowKit

theorem trim_no {l p : Bs} (h : Lib.hasPrefix l p = false) : Lib.trimPrefix l p = l := by unfold Lib.trimPrefix; rw [h]; rfl
theorem takeR_both {n : Nat} {l : Bs} {x : Bs × Bs} (h : takeR n l = .ok x) : x.1.length + x.2.length = l.length := by
  obtain ⟨-, h1, h2⟩ := takeR_len h
  rw [h1, h2]; simp; omega
theorem numR_small {b m : Nat} {d : Bs} {n : Nat} (h : numR b m d = some n) : n < 16777216 ∨ n ≤ 1114111 := by
  rw [numR_eq] at h
  split at h
  · cases h
  · obtain ⟨x, -, hx⟩ := Option.bind_eq_some_iff.1 h
    unfold numE at hx
    split at hx
    · rename_i hs
      injection hx with hx
      subst hx
      unfold standsX Lib.validRune at hs
      simp at hs
      omega
    · cases hx
theorem charR_small {nm : Bs} {n : Nat} (h : charR nm = some n) : n < 16777216 := by
  rw [charR_find] at h
  have key : ∀ l : List (Bs × UInt8), findE nm l = some n → n < 16777216 := by
    intro l
    induction l with
    | nil =>
      intro h
      unfold findE charH at h
      split at h
      · rcases numR_small h with h | h <;> omega
      · split at h
        · rcases numR_small h with h | h <;> omega
        · cases h
    | cons e r ih =>
      intro h
      unfold findE at h
      split at h
      · injection h with h
        have := e.2.toNat_lt
        omega
      · exact ih h
  exact key _ h
theorem entityR_small {l : Bs} {x : Nat × Bs} (h : entityR l = .ok x) : x.1 < 16777216 := by
  rw [entityR_eq] at h
  split at h
  · split at h
    · rename_i c hc
      injection h with h
      subst h
      exact charR_small hc
    · cases h
  · cases h
theorem info_u8 : ∃ i, Tryz.prog.info? 5 = some i ∧ i.zero = some (.int .u8 0) ∧ i.size = 1 ∧ i.bytes = 1 := by
  have h : (Tryz.prog.info? 5).map (fun i => (i.zero, i.size, i.bytes)) = some (some (.int .u8 0), 1, 1) := by kernel_rfl
  obtain ⟨i, hi, h2⟩ := Option.map_eq_some_iff.1 h
  simp only [Prod.mk.injEq] at h2
  exact ⟨i, hi, h2.1, h2.2.1, h2.2.2⟩
section
variable {w0 : World} {B g : Nat} {r0 : Bs} {v1 v2 v3 v4 : Value}
end
end Go.Proofs.YtljldbdjkjllhaaGreatDoor
