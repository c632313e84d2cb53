/- A character by its number, and by its name; an entity. -/
import Derived.Test.YtoifibnmincodaaGreatDoorXo
import Derived.Test.YtoifibnmincodaaGreatDoorXu
namespace Go.Proofs.YtoifibnmincodaaGreatDoor
set_option linter.unusedSimpArgs false
set_option linter.unusedVariables false
open Go.RowKit

theorem numX_lt (b : Nat) : ∀ (l : Bs) (acc n : Nat), numX b acc l = some n → n < (acc + 1) * b ^ l.length
  | [], acc, n, h => by injection h with h; subst h; simp
  | c :: r, acc, n, h => by
    rw [numX] at h
    split at h
    · rename_i hd
      have := numX_lt b r _ n h
      have h2 : (acc * b + digX c + 1) * b ^ r.length ≤ ((acc + 1) * b) * b ^ r.length := Nat.mul_le_mul_right _ (by rw [Nat.add_mul, Nat.one_mul]; omega)
      rw [List.length_cons, Nat.pow_succ, Nat.mul_comm (b ^ r.length) b, ← Nat.mul_assoc]
      omega
    · cases h
theorem uintX_lt {b : Nat} {t : ByteArray} (hb : BaseX b t) {n : Nat} (h : uintX b t.data.toList = some n) : n < 16777216 := by
  unfold uintX at h
  split at h
  · cases h
  · have h1 := numX_lt b _ 0 n h
    rw [Nat.zero_add, Nat.one_mul, size_len] at h1
    rcases hb with ⟨rfl, hz⟩ | ⟨rfl, hz⟩
    · have : 10 ^ t.size ≤ 10 ^ 7 := Nat.pow_le_pow_right (by decide) hz
      omega
    · have : 16 ^ t.size ≤ 16 ^ 6 := Nat.pow_le_pow_right (by decide) hz
      omega
def numE (n : Nat) : Option Nat := if standsX n = true then some n else none
theorem numR_eq (b m : Nat) (d : Bs) : numR b m d = if m < d.length then none else (uintX b d).bind numE := by
  unfold numR
  split
  · rfl
  · cases uintX b d with
    | none => rfl
    | some n => rw [Option.bind_some, numE]
def chV : Option Nat → Value
  | some n => .tuple #[.int .i32 (n : Int), .bool true]
  | none => .tuple #[.int .i32 0, .bool false]
set_option maxHeartbeats 2000000 in
set_option maxRecDepth 100000 in
theorem numbered_any (b m : Nat) (t : ByteArray) (hbm : (b = 10 ∧ m = 7) ∨ (b = 16 ∧ m = 6)) {B : Nat} {w : World} (hE : XEnv B w) (hz : t.size ≤ 40000) :
    Calls Tryz.prog 141 #[.string t, .int .i64 (b : Int), .int .i64 (m : Int)] w fun e w' => e = .returned (chV (numR b m t.data.toList)) ∧ Below w.heap.size w w' := by
  have hl : t.data.toList.length = t.size := size_len t
  by_cases hlen : m < t.size
  · have HE : Hid (numR b m t.data.toList = none) := by show numR b m _ = none; rw [numR_eq, if_pos (by omega)]
    have hz1 : (m : Int) < (t.size : Int) := by omega
    clear hlen hl hE hbm
    go_enter Tryz.func141, Tryz.ntmps141
    go_wp2_with fail
    go_ret2
    exact ⟨by rw [HE.out]; rfl, Below.refl _ _⟩
  · have hb : BaseX b t := by
      rcases hbm with ⟨rfl, rfl⟩ | ⟨rfl, rfl⟩
      · exact .inl ⟨rfl, by omega⟩
      · exact .inr ⟨rfl, by omega⟩
    have C := Lib.hid (pu_any b t hb hE)
    have HE : Hid (numR b m t.data.toList = (uintX b t.data.toList).bind numE) := by show numR b m _ = _; rw [numR_eq, if_neg (by omega)]
    have hz1 : ¬ (m : Int) < (t.size : Int) := by omega
    have hlt := fun n (h : uintX b t.data.toList = some n) => uintX_lt hb h
    clear hlen hl hE hbm hb
    generalize numR b m t.data.toList = res at *
    unfold PuEnds at C
    cases hu : uintX b t.data.toList with
    | none =>
      rw [hu] at C HE
      clear hlt hu
      go_enter Tryz.func141, Tryz.ntmps141
      go_wp2_with fail
      refine C.out.mono ?_
      rintro e w1 ⟨⟨N, rfl⟩, hb⟩
      have HB := Lib.hid hb
      clear hb C
      go_wp2_with fail
      go_ret2
      exact ⟨by rw [HE.out]; rfl, HB.out⟩
    | some n =>
      rw [hu] at C HE
      have hn := hlt n hu
      have HE : Hid (res = if standsX n = true then some n else none) := by show res = _; rw [HE.out, Option.bind_some, numE]
      clear hlt hu
      have CV := Lib.hid (fun w => Tryz.utf8_ValidRune (n : Int) w)
      have HS : Hid (standsX n = (Lib.validRune (n : Int) && (decide (32 ≤ n) || xLay n.toUInt8))) := rfl
      generalize standsX n = sx at *
      generalize Lib.validRune (n : Int) = vx at *
      have hcv : IntKind.i32.wrap (n : Int) = (n : Int) := by rw [IntKind.wrap_i32]; omega
      cases vx with
      | false =>
        have HE2 : Hid (res = none) := by show res = none; rw [HE.out, HS.out]; rfl
        clear HE HS
        go_enter Tryz.func141, Tryz.ntmps141
        go_wp2_with fail
        refine C.out.mono ?_
        rintro e w1 ⟨rfl, hb⟩
        have HB := Lib.hid hb
        clear hb C
        go_wp2_with fail
        refine (CV.out _).mono ?_
        rintro e w2 ⟨rfl, rfl⟩
        go_wp2_with fail
        go_ret2
        exact ⟨by rw [HE2.out]; rfl, HB.out⟩
      | true =>
        by_cases h32 : 32 ≤ n
        · have HE2 : Hid (res = some n) := by show res = some n; rw [HE.out, HS.out]; simp [h32]
          have hq : ¬ (n : Int) < 32 := by omega
          have hq2 : decide ((n : Int) < 32) = false := decide_eq_false hq
          clear HE HS h32
          go_enter Tryz.func141, Tryz.ntmps141
          go_wp2_with fail
          refine C.out.mono ?_
          rintro e w1 ⟨rfl, hb⟩
          have HB := Lib.hid hb
          clear hb C
          go_wp2_with fail
          refine (CV.out _).mono ?_
          rintro e w2 ⟨rfl, rfl⟩
          go_wp2_with fail
          go_ret2
          exact ⟨by rw [HE2.out]; rfl, HB.out⟩
        · have hn8 : n.toUInt8.toNat = n := by simp; omega
          have CL := Lib.hid (isLayout_any n.toUInt8)
          rw [hn8] at CL
          have HE2 : Hid (res = if xLay n.toUInt8 = true then some n else none) := by show res = _; rw [HE.out, HS.out]; simp [h32]
          have hq : (n : Int) < 32 := by omega
          have hq2 : decide ((n : Int) < 32) = true := decide_eq_true hq
          clear HE HS h32 hn8
          generalize xLay n.toUInt8 = lx at *
          cases lx
          all_goals
            go_enter Tryz.func141, Tryz.ntmps141
            go_wp2_with fail
            refine C.out.mono ?_
            rintro e w1 ⟨rfl, hb⟩
            have HB := Lib.hid hb
            clear hb C
            go_wp2_with fail
            refine (CV.out _).mono ?_
            rintro e w2 ⟨rfl, rfl⟩
            go_wp2_with fail
            refine (CL.out _).mono ?_
            rintro e w2 ⟨rfl, rfl⟩
            go_wp2_with fail
            go_ret2
            exact ⟨by rw [HE2.out]; rfl, HB.out⟩
end Go.Proofs.YtoifibnmincodaaGreatDoor
