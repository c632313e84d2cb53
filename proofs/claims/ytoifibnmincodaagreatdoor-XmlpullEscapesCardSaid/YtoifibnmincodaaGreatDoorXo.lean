/- What strconv.ParseUint answers; a character by its number. -/
import Derived.Test.YtoifibnmincodaaGreatDoorXn
namespace Go.Proofs.YtoifibnmincodaaGreatDoor
set_option linter.unusedSimpArgs false
set_option linter.unusedVariables false
open Go.RowKit

theorem dig10 (c : UInt8) : digX c < 10 ↔ 48 ≤ c.toNat ∧ c.toNat ≤ 57 := by
  unfold digX
  split
  · rename_i h; constructor
    · intro _; exact h
    · intro _; omega
  · rename_i h; constructor
    · intro h2; split at h2 <;> omega
    · intro h2; exact absurd h2 h
theorem num10 : ∀ (l : List UInt8) (acc : Nat), (acc + 1) * 10 ^ l.length ≤ 10000000 → Lib.parseUintM 4294967295 acc l = match numX 10 acc l with
    | some n => .ok n
    | none => .syntax
  | [], acc, h => rfl
  | c :: r, acc, h => by
    have hp : 10 ^ (r.length + 1) = 10 ^ r.length * 10 := Nat.pow_succ ..
    rw [List.length_cons, hp] at h
    have h1 : 0 < 10 ^ r.length := Nat.pow_pos (by decide)
    have h2 : (acc + 1) * 10 ≤ (acc + 1) * (10 ^ r.length * 10) := Nat.mul_le_mul_left _ (by omega)
    by_cases hd : 48 ≤ c.toNat ∧ c.toNat ≤ 57
    · have hdc : digX c = c.toNat - 48 := by unfold digX; rw [if_pos hd]
      have h3 : acc * 10 + (c.toNat - 48) + 1 ≤ (acc + 1) * 10 := by omega
      have h4 : (acc * 10 + (c.toNat - 48) + 1) * 10 ^ r.length ≤ 10000000 := by
        refine Nat.le_trans (Nat.mul_le_mul_right _ h3) ?_
        rw [Nat.mul_assoc, Nat.mul_comm 10]; exact h
      have ih := num10 r (acc * 10 + (c.toNat - 48)) h4
      rw [numX, hdc, if_pos (by omega), ← ih]
      have hcut : ¬ 1844674407370955162 ≤ acc := by omega
      have hov : ¬ 4294967295 < acc * 10 + (c.toNat - 48) := by omega
      simp [Lib.parseUintM, hd.1, hd.2, hcut, hov]
    · rw [numX, if_neg (fun h => hd ((dig10 c).1 h))]
      simp [Lib.parseUintM, hd]
/-- A numeral's base, and how many digits it may have. -/
def BaseX (b : Nat) (t : ByteArray) : Prop := (b = 10 ∧ t.size ≤ 7) ∨ (b = 16 ∧ t.size ≤ 6)
theorem puI_any (b : Nat) (t : ByteArray) (hb : BaseX b t) (w : World) :
    Calls Tryz.prog 178 #[.string t, .int .i64 (b : Int), .int .i64 32] w fun e w' => e = .returned (uTup (uintX b t.data.toList)) ∧ Below w.heap.size w w' := by
  by_cases h0 : t.size = 0
  · have ht := empty_of h0
    subst ht
    refine (Tryz.internal_strconv_ParseUint_empty (b : Int) 32 w).mono ?_
    rintro e w' ⟨rfl, rfl⟩
    exact ⟨rfl, Below.refl _ _⟩
  · have hne : t.data.toList ≠ [] := fun e => h0 (by rw [← size_len, e]; rfl)
    have hu : ∀ b, uintX b t.data.toList = numX b 0 t.data.toList := fun b => by unfold uintX; rw [if_neg hne]
    rcases hb with ⟨rfl, hz⟩ | ⟨rfl, hz⟩
    · refine (Tryz.internal_strconv_ParseUint_10_b32 t h0 (by omega) w).mono ?_
      rintro e w' ⟨rfl, rfl⟩
      refine ⟨?_, Lib.bytesWorld_below _ _ _⟩
      rw [hu, num10 _ 0 (by
        have : 10 ^ t.data.toList.length ≤ 10 ^ 7 := Nat.pow_le_pow_right (by decide) (by rw [size_len]; exact hz)
        rw [Nat.zero_add, Nat.one_mul]; exact this)]
      cases numX 10 0 t.data.toList with
      | none => rfl
      | some n => rfl
    · refine (pu16_any t h0 hz w).mono ?_
      rintro e w' ⟨rfl, rfl⟩
      exact ⟨by rw [hu], Lib.bytesWorld_below _ _ _⟩
/-- What ParseUint answers. -/
def PuEnds (res : Option Nat) (e : Ending) : Prop := match res with
  | some n => e = .returned (.tuple #[.int .u64 (n : Int), .nilIface])
  | none => ∃ N : Nat, e = .returned (.tuple #[.int .u64 0, .iface 206 (.pointer (some ⟨N, 0, none⟩))])
set_option maxHeartbeats 1000000 in
set_option maxRecDepth 100000 in
theorem pu_any (b : Nat) (t : ByteArray) (hb : BaseX b t) {B : Nat} {w : World} (hE : XEnv B w) :
    Calls Tryz.prog 165 #[.string t, .int .i64 (b : Int), .int .i64 32] w fun e w' => PuEnds (uintX b t.data.toList) e ∧ Below w.heap.size w w' := by
  have C := Lib.hid (puI_any b t hb w)
  have hz : t.size ≤ 281474976710656 := by rcases hb with ⟨_, h⟩ | ⟨_, h⟩ <;> omega
  have CE : Hid (∀ w', Below w.heap.size w w' → Calls Tryz.prog 179 #[.string ⟨#[80, 97, 114, 115, 101, 85, 105, 110, 116]⟩, .string t, .int .i64 (b : Int), .int .i64 32, .iface 204 (.int .i64 2)] w' fun e w'' => ∃ N : Nat, e = .returned (.iface 206 (.pointer (some ⟨N, 0, none⟩))) ∧ Below w'.heap.size w' w'') := fun w' hb' => by
    obtain ⟨ev, h1, h2⟩ := (hE.below hb').err
    refine (Tryz.strconv_toError_syntax ⟨#[80, 97, 114, 115, 101, 85, 105, 110, 116]⟩ t (b : Int) 32 ev w' hz h1 h2).mono ?_
    rintro e w2 ⟨N, rfl, -, -, h⟩
    exact ⟨N, rfl, h⟩
  clear hb hE hz
  unfold PuEnds
  generalize uintX b t.data.toList = res at *
  cases res with
  | some n =>
    unfold uTup at C
    go_enter Tryz.func165, Tryz.ntmps165
    go_wp2_with fail
    refine C.out.mono ?_
    rintro e w1 ⟨rfl, hb⟩
    have HB := Lib.hid hb
    clear hb C CE
    go_wp2_with fail
    go_ret2
    exact ⟨rfl, HB.out⟩
  | none =>
    unfold uTup at C
    go_enter Tryz.func165, Tryz.ntmps165
    go_wp2_with fail
    refine C.out.mono ?_
    rintro e w1 ⟨rfl, hb⟩
    have HB := Lib.hid hb
    have CE1 := Lib.hid (CE.out _ hb)
    clear C CE
    go_wp2_with fail
    refine CE1.out.mono ?_
    rintro e w2 ⟨N, rfl, h3⟩
    have HB2 := Lib.hid (HB.out.trans (h3.mono HB.out.size))
    clear h3 CE1
    go_wp2_with fail
    go_ret2
    exact ⟨⟨N, rfl⟩, HB2.out⟩
end Go.Proofs.YtoifibnmincodaaGreatDoor
