/- The document's answer: texts compared, noughts and idle bytes left out, how far a part reaches. -/
import Derived.Test.YtbfpljlgjpmmmaaDoorRefA
namespace Go.Proofs.YtbfpljlgjpmmmaaDoor
set_option linter.unusedSimpArgs false
set_option linter.unusedVariables false
open Go.RowKit

theorem less_is : ∀ a b : List UInt8, Op.bytesLess a b = decide (cmpL a b = -1)
  | [], [] => rfl
  | [], _ :: _ => rfl
  | _ :: _, [] => rfl
  | x :: a, y :: b => by
    have ih := less_is a b
    simp only [Op.bytesLess, cmpL]
    by_cases h1 : x < y
    · simp [h1]
    · by_cases h2 : y < x
      · have hne : (x == y) = false := beq_eq_false_iff_ne.2 (by rintro rfl; exact h1 h2)
        simp [h1, h2, hne]
      · have he : x = y := by
          simp only [UInt8.lt_iff_toNat_lt] at h1 h2
          exact UInt8.toNat_inj.1 (by omega)
        subst he
        simp [h1, ih]
theorem same_is : ∀ a b : List UInt8, (a == b) = decide (cmpL a b = 0)
  | [], [] => rfl
  | [], _ :: _ => rfl
  | _ :: _, [] => rfl
  | x :: a, y :: b => by
    have ih := same_is a b
    simp only [cmpL]
    by_cases h1 : x < y
    · have hne : x ≠ y := by rintro rfl; simp only [UInt8.lt_iff_toNat_lt] at h1; omega
      simp [h1, hne]
    · by_cases h2 : y < x
      · have hne : x ≠ y := by rintro rfl; exact h1 h2
        simp [h1, h2, hne]
      · have he : x = y := by
          simp only [UInt8.lt_iff_toNat_lt] at h1 h2
          exact UInt8.toNat_inj.1 (by omega)
        subst he
        have : (x :: a == x :: b) = (a == b) := by simp
        rw [this, ih]
        simp [h1]
set_option maxRecDepth 100000 in
theorem refText_any (a b : ByteArray) (w : World) : Calls Tryd.prog 60 #[.string a, .string b] w fun e w' => e = .returned (.int .i64 (cmpL a.data.toList b.data.toList)) ∧ w = w' := by
  have h1 : Op.bytesLess a.toList b.toList = decide (cmpL a.data.toList b.data.toList = -1) := by rw [less_is, ByteArray.toList_eq, ByteArray.toList_eq]
  have h2 : Op.bytesLess b.toList a.toList = decide (cmpL b.data.toList a.data.toList = -1) := by rw [less_is, ByteArray.toList_eq, ByteArray.toList_eq]
  have h3 : (a.toList == b.toList) = decide (cmpL a.data.toList b.data.toList = 0) := by rw [same_is, ByteArray.toList_eq, ByteArray.toList_eq]
  have R := ordL.range a.data.toList b.data.toList
  rw [ordL.anti a.data.toList b.data.toList] at h2
  generalize cmpL a.data.toList b.data.toList = c at *
  rcases R with rfl | rfl | rfl
  · rw [show decide ((-1 : Int) = -1) = true from rfl] at h1
    clear h2 h3
    go_enter Tryd.func60, Tryd.ntmps60
    go_wp2_with fail
    go_ret
    exact ⟨rfl, rfl⟩
  · rw [show decide ((0 : Int) = -1) = false from rfl] at h1
    rw [show decide (-(0 : Int) = -1) = false from rfl] at h2
    rw [show decide ((0 : Int) = 0) = true from rfl] at h3
    go_enter Tryd.func60, Tryd.ntmps60
    go_wp2_with fail
    go_ret
    exact ⟨rfl, rfl⟩
  · rw [show decide ((1 : Int) = -1) = false from rfl] at h1
    rw [show decide (-(1 : Int) = -1) = true from rfl] at h2
    rw [show decide ((1 : Int) = 0) = false from rfl] at h3
    go_enter Tryd.func60, Tryd.ntmps60
    go_wp2_with fail
    go_ret
    exact ⟨rfl, rfl⟩

theorem bl_tail {s : ByteArray} : (s.extract 1 s.size).data.toList = s.data.toList.tail := by rw [bl_from, List.drop_one]
theorem sub_cmp {a b : Nat} : cmpI ((a : Int) - (b : Int)) 0 = cmpI a b := by unfold cmpI; split <;> split <;> (try split) <;> (try split) <;> omega

def lenS : Value → Nat
  | .string s => s.size
  | _ => 0
set_option maxHeartbeats 2000000 in
set_option maxRecDepth 100000 in
theorem refNumber_any (a0 b0 : ByteArray) (ha0 : a0.size ≤ maxLen) (hb0 : b0.size ≤ maxLen) (w : World) :
    Calls Tryd.prog 46 #[.string a0, .string b0] w fun e w' => e = .returned (.int .i64 (cmpNum a0.data.toList b0.data.toList)) ∧ w = w' := by
  unfold maxLen at ha0 hb0
  go_enter Tryd.func46, Tryd.ntmps46
  go_wp2_with fail
  go_loop [0] (fun v => ∃ a : ByteArray, v = .string a ∧ a.size ≤ a0.size ∧ Hid (nz a.data.toList = nz a0.data.toList)) (fun v => lenS v)
  case atStart => exact ⟨a0, rfl, Nat.le_refl _, show nz a0.data.toList = _ from rfl⟩
  case round =>
    obtain ⟨a, rfl, ha, hn⟩ := hrel
    by_cases ha0 : 0 < a.size
    · have ka0 : (0 : Int) < (a.size : Int) := by omega
      by_cases hc : a[0] = 48
      · have t1 : ((a[0].toNat : Int) == 48) = true := by rw [hc]; rfl
        have HN0 : Hid (nz (a.extract 1 a.size).data.toList = nz a0.data.toList) := by
          show nz _ = _
          rw [← hn.out, bl_tail, list_cons ha0, hc]
          rfl
        have i1 : (1 : Int) ≤ (a.size : Int) := by omega
        have HS1 := Lib.hid (show (a.extract 1 a.size).size = a.size - 1 by simp)
        clear hc hn
        go_wp2_with fail
        go_round
        case rel => exact ⟨_, rfl, by rw [HS1.out]; omega, HN0.out⟩
        case measure => show (a.extract 1 a.size).size < a.size; rw [HS1.out]; omega
      · have t1a : ((a[0].toNat : Int) == 48) = false := by
          have := u8_eq (a := a[0]) (b := 48)
          rw [show ((48 : UInt8).toNat : Int) = 48 from rfl] at this
          rw [this]; simp [hc]
        have HN : Hid (nz a0.data.toList = a.data.toList) := by
          show nz _ = _
          rw [← hn.out, list_cons ha0, nz, List.dropWhile_cons]
          simp [hc]
        clear hc hn
        go_wp2_with fail
        go_loop [1] (fun v => ∃ b : ByteArray, v = .string b ∧ b.size ≤ b0.size ∧ Hid (nz b.data.toList = nz b0.data.toList)) (fun v => lenS v)
        case atStart => exact ⟨b0, rfl, Nat.le_refl _, show nz b0.data.toList = _ from rfl⟩
        case round =>
          obtain ⟨b, rfl, hb, hn⟩ := hrel
          by_cases hb0 : 0 < b.size
          · have kb0 : (0 : Int) < (b.size : Int) := by omega
            by_cases hc : b[0] = 48
            · have t1 : ((b[0].toNat : Int) == 48) = true := by rw [hc]; rfl
              have HN0 : Hid (nz (b.extract 1 b.size).data.toList = nz b0.data.toList) := by
                show nz _ = _
                rw [← hn.out, bl_tail, list_cons hb0, hc]
                rfl
              have i1 : (1 : Int) ≤ (b.size : Int) := by omega
              have HS1 := Lib.hid (show (b.extract 1 b.size).size = b.size - 1 by simp)
              clear hc hn
              go_wp2_with fail
              go_round
              case rel => exact ⟨_, rfl, by rw [HS1.out]; omega, HN0.out⟩
              case measure => show (b.extract 1 b.size).size < b.size; rw [HS1.out]; omega
            · have t1b : ((b[0].toNat : Int) == 48) = false := by
                have := u8_eq (a := b[0]) (b := 48)
                rw [show ((48 : UInt8).toNat : Int) = 48 from rfl] at this
                rw [this]; simp [hc]
              have HM : Hid (nz b0.data.toList = b.data.toList) := by
                show nz _ = _
                rw [← hn.out, list_cons hb0, nz, List.dropWhile_cons]
                simp [hc]
              clear hc hn
              have HV : Hid (cmpNum a0.data.toList b0.data.toList = thenC (cmpI (a.size : Int) (b.size : Int)) (cmpL a.data.toList b.data.toList)) := by
                show cmpNum _ _ = _
                unfold cmpNum
                rw [HN.out, HM.out, size_len, size_len]
              clear HN HM
              by_cases hz : a.size = b.size
              · have HV2 := Lib.hid (show cmpNum a0.data.toList b0.data.toList = cmpL a.data.toList b.data.toList by rw [HV.out, hz, cmpI_self, thenC_zero])
                have CT := Lib.hid (fun w => refText_any a b w)
                have t5 : (a.size == b.size) = true := by rw [hz]; simp
                have t6 : (a.size != b.size) = false := by rw [hz]; simp
                have t3 : ((a.size : Int) == (b.size : Int)) = true := by rw [hz]; simp
                have t4 : ((a.size : Int) != (b.size : Int)) = false := by rw [hz]; simp
                clear HV hz
                go_wp2_with fail
                refine (CT.out _).mono ?_
                rintro e w1 ⟨rfl, rfl⟩
                go_wp2_with fail
                go_ret
                exact ⟨by rw [HV2.out]; rfl, rfl⟩
              · have hne : (a.size : Int) ≠ (b.size : Int) := by omega
                have HV2 := Lib.hid (show cmpNum a0.data.toList b0.data.toList = cmpI ((a.size : Int) - (b.size : Int)) 0 by rw [HV.out, sub_cmp, thenC_ne (cmpI_ne hne)])
                have CS := Lib.hid (fun w => refSign_any ((a.size : Int) - (b.size : Int)) w)
                have t5 : (a.size == b.size) = false := by simpa using hz
                have t6 : (a.size != b.size) = true := by simpa using hz
                have t3 : ((a.size : Int) == (b.size : Int)) = false := by simpa using hne
                have t4 : ((a.size : Int) != (b.size : Int)) = true := by simpa using hne
                clear HV hz hne
                go_wp2_with fail
                refine (CS.out _).mono ?_
                rintro e w1 ⟨rfl, rfl⟩
                go_wp2_with fail
                go_ret
                exact ⟨by rw [HV2.out]; rfl, rfl⟩
          · have kb0 : ¬ (0 : Int) < (b.size : Int) := by omega
            have HM : Hid (nz b0.data.toList = b.data.toList) := by
              show nz _ = _
              rw [← hn.out, list_nil (by omega)]; rfl
            clear hn
            have HV : Hid (cmpNum a0.data.toList b0.data.toList = thenC (cmpI (a.size : Int) (b.size : Int)) (cmpL a.data.toList b.data.toList)) := by
              show cmpNum _ _ = _
              unfold cmpNum
              rw [HN.out, HM.out, size_len, size_len]
            clear HN HM
            by_cases hz : a.size = b.size
            · have HV2 := Lib.hid (show cmpNum a0.data.toList b0.data.toList = cmpL a.data.toList b.data.toList by rw [HV.out, hz, cmpI_self, thenC_zero])
              have CT := Lib.hid (fun w => refText_any a b w)
              have t5 : (a.size == b.size) = true := by rw [hz]; simp
              have t6 : (a.size != b.size) = false := by rw [hz]; simp
              have t3 : ((a.size : Int) == (b.size : Int)) = true := by rw [hz]; simp
              have t4 : ((a.size : Int) != (b.size : Int)) = false := by rw [hz]; simp
              clear HV hz
              go_wp2_with fail
              refine (CT.out _).mono ?_
              rintro e w1 ⟨rfl, rfl⟩
              go_wp2_with fail
              go_ret
              exact ⟨by rw [HV2.out]; rfl, rfl⟩
            · have hne : (a.size : Int) ≠ (b.size : Int) := by omega
              have HV2 := Lib.hid (show cmpNum a0.data.toList b0.data.toList = cmpI ((a.size : Int) - (b.size : Int)) 0 by rw [HV.out, sub_cmp, thenC_ne (cmpI_ne hne)])
              have CS := Lib.hid (fun w => refSign_any ((a.size : Int) - (b.size : Int)) w)
              have t5 : (a.size == b.size) = false := by simpa using hz
              have t6 : (a.size != b.size) = true := by simpa using hz
              have t3 : ((a.size : Int) == (b.size : Int)) = false := by simpa using hne
              have t4 : ((a.size : Int) != (b.size : Int)) = true := by simpa using hne
              clear HV hz hne
              go_wp2_with fail
              refine (CS.out _).mono ?_
              rintro e w1 ⟨rfl, rfl⟩
              go_wp2_with fail
              go_ret
              exact ⟨by rw [HV2.out]; rfl, rfl⟩
    · have ka0 : ¬ (0 : Int) < (a.size : Int) := by omega
      have HN : Hid (nz a0.data.toList = a.data.toList) := by
        show nz _ = _
        rw [← hn.out, list_nil (by omega)]; rfl
      clear hn
      go_wp2_with fail
      go_loop [1] (fun v => ∃ b : ByteArray, v = .string b ∧ b.size ≤ b0.size ∧ Hid (nz b.data.toList = nz b0.data.toList)) (fun v => lenS v)
      case atStart => exact ⟨b0, rfl, Nat.le_refl _, show nz b0.data.toList = _ from rfl⟩
      case round =>
        obtain ⟨b, rfl, hb, hn⟩ := hrel
        by_cases hb0 : 0 < b.size
        · have kb0 : (0 : Int) < (b.size : Int) := by omega
          by_cases hc : b[0] = 48
          · have t1 : ((b[0].toNat : Int) == 48) = true := by rw [hc]; rfl
            have HN0 : Hid (nz (b.extract 1 b.size).data.toList = nz b0.data.toList) := by
              show nz _ = _
              rw [← hn.out, bl_tail, list_cons hb0, hc]
              rfl
            have i1 : (1 : Int) ≤ (b.size : Int) := by omega
            have HS1 := Lib.hid (show (b.extract 1 b.size).size = b.size - 1 by simp)
            clear hc hn
            go_wp2_with fail
            go_round
            case rel => exact ⟨_, rfl, by rw [HS1.out]; omega, HN0.out⟩
            case measure => show (b.extract 1 b.size).size < b.size; rw [HS1.out]; omega
          · have t1b : ((b[0].toNat : Int) == 48) = false := by
              have := u8_eq (a := b[0]) (b := 48)
              rw [show ((48 : UInt8).toNat : Int) = 48 from rfl] at this
              rw [this]; simp [hc]
            have HM : Hid (nz b0.data.toList = b.data.toList) := by
              show nz _ = _
              rw [← hn.out, list_cons hb0, nz, List.dropWhile_cons]
              simp [hc]
            clear hc hn
            have HV : Hid (cmpNum a0.data.toList b0.data.toList = thenC (cmpI (a.size : Int) (b.size : Int)) (cmpL a.data.toList b.data.toList)) := by
              show cmpNum _ _ = _
              unfold cmpNum
              rw [HN.out, HM.out, size_len, size_len]
            clear HN HM
            by_cases hz : a.size = b.size
            · have HV2 := Lib.hid (show cmpNum a0.data.toList b0.data.toList = cmpL a.data.toList b.data.toList by rw [HV.out, hz, cmpI_self, thenC_zero])
              have CT := Lib.hid (fun w => refText_any a b w)
              have t5 : (a.size == b.size) = true := by rw [hz]; simp
              have t6 : (a.size != b.size) = false := by rw [hz]; simp
              have t3 : ((a.size : Int) == (b.size : Int)) = true := by rw [hz]; simp
              have t4 : ((a.size : Int) != (b.size : Int)) = false := by rw [hz]; simp
              clear HV hz
              go_wp2_with fail
              refine (CT.out _).mono ?_
              rintro e w1 ⟨rfl, rfl⟩
              go_wp2_with fail
              go_ret
              exact ⟨by rw [HV2.out]; rfl, rfl⟩
            · have hne : (a.size : Int) ≠ (b.size : Int) := by omega
              have HV2 := Lib.hid (show cmpNum a0.data.toList b0.data.toList = cmpI ((a.size : Int) - (b.size : Int)) 0 by rw [HV.out, sub_cmp, thenC_ne (cmpI_ne hne)])
              have CS := Lib.hid (fun w => refSign_any ((a.size : Int) - (b.size : Int)) w)
              have t5 : (a.size == b.size) = false := by simpa using hz
              have t6 : (a.size != b.size) = true := by simpa using hz
              have t3 : ((a.size : Int) == (b.size : Int)) = false := by simpa using hne
              have t4 : ((a.size : Int) != (b.size : Int)) = true := by simpa using hne
              clear HV hz hne
              go_wp2_with fail
              refine (CS.out _).mono ?_
              rintro e w1 ⟨rfl, rfl⟩
              go_wp2_with fail
              go_ret
              exact ⟨by rw [HV2.out]; rfl, rfl⟩
        · have kb0 : ¬ (0 : Int) < (b.size : Int) := by omega
          have HM : Hid (nz b0.data.toList = b.data.toList) := by
            show nz _ = _
            rw [← hn.out, list_nil (by omega)]; rfl
          clear hn
          have HV : Hid (cmpNum a0.data.toList b0.data.toList = thenC (cmpI (a.size : Int) (b.size : Int)) (cmpL a.data.toList b.data.toList)) := by
            show cmpNum _ _ = _
            unfold cmpNum
            rw [HN.out, HM.out, size_len, size_len]
          clear HN HM
          by_cases hz : a.size = b.size
          · have HV2 := Lib.hid (show cmpNum a0.data.toList b0.data.toList = cmpL a.data.toList b.data.toList by rw [HV.out, hz, cmpI_self, thenC_zero])
            have CT := Lib.hid (fun w => refText_any a b w)
            have t5 : (a.size == b.size) = true := by rw [hz]; simp
            have t6 : (a.size != b.size) = false := by rw [hz]; simp
            have t3 : ((a.size : Int) == (b.size : Int)) = true := by rw [hz]; simp
            have t4 : ((a.size : Int) != (b.size : Int)) = false := by rw [hz]; simp
            clear HV hz
            go_wp2_with fail
            refine (CT.out _).mono ?_
            rintro e w1 ⟨rfl, rfl⟩
            go_wp2_with fail
            go_ret
            exact ⟨by rw [HV2.out]; rfl, rfl⟩
          · have hne : (a.size : Int) ≠ (b.size : Int) := by omega
            have HV2 := Lib.hid (show cmpNum a0.data.toList b0.data.toList = cmpI ((a.size : Int) - (b.size : Int)) 0 by rw [HV.out, sub_cmp, thenC_ne (cmpI_ne hne)])
            have CS := Lib.hid (fun w => refSign_any ((a.size : Int) - (b.size : Int)) w)
            have t5 : (a.size == b.size) = false := by simpa using hz
            have t6 : (a.size != b.size) = true := by simpa using hz
            have t3 : ((a.size : Int) == (b.size : Int)) = false := by simpa using hne
            have t4 : ((a.size : Int) != (b.size : Int)) = true := by simpa using hne
            clear HV hz hne
            go_wp2_with fail
            refine (CS.out _).mono ?_
            rintro e w1 ⟨rfl, rfl⟩
            go_wp2_with fail
            go_ret
            exact ⟨by rw [HV2.out]; rfl, rfl⟩

set_option maxHeartbeats 2000000 in
set_option maxRecDepth 100000 in
theorem refSkipped_any (s0 : ByteArray) (hs0 : s0.size ≤ maxLen) (w : World) :
    Calls Tryd.prog 64 #[.string s0] w fun e w' => (∃ s : ByteArray, e = .returned (.string s) ∧ s.data.toList = strip s0.data.toList) ∧ w = w' := by
  unfold maxLen at hs0
  go_enter Tryd.func64, Tryd.ntmps64
  go_wp2_with fail
  go_loop [0] (fun v => ∃ s : ByteArray, v = .string s ∧ s.size ≤ s0.size ∧ Hid (strip s.data.toList = strip s0.data.toList)) (fun v => lenS v)
  case atStart => exact ⟨s0, rfl, Nat.le_refl _, show strip s0.data.toList = _ from rfl⟩
  case round =>
    obtain ⟨s, rfl, hs, hn⟩ := hrel
    by_cases h0 : 0 < s.size
    · have k0 : (0 : Int) < (s.size : Int) := by omega
      have i1 : (1 : Int) ≤ (s.size : Int) := by omega
      have CL := Lib.hid (refLetter_any s[0])
      have CD := Lib.hid (refDigit_any s[0])
      have HI := Lib.hid (idI s[0])
      have HS1 := Lib.hid (show (s.extract 1 s.size).size = s.size - 1 by simp)
      have HY : Hid (isIdle s[0] = true → strip (s.extract 1 s.size).data.toList = strip s0.data.toList) := fun h => by
        rw [← hn.out, bl_tail]
        conv => rhs; rw [list_cons h0]
        unfold strip
        rw [List.dropWhile_cons, if_pos h]
      have HNo : Hid (isIdle s[0] = false → s.data.toList = strip s0.data.toList) := fun h => by
        rw [← hn.out]
        conv => rhs; rw [list_cons h0]
        unfold strip
        rw [List.dropWhile_cons, h]
        simp only [Bool.false_eq_true, if_false]
        exact list_cons h0
      clear hn
      generalize isIdle s[0] = i at *
      generalize isDg s[0] = d at *
      generalize isLt s[0] = t at *
      by_cases c1 : (s[0].toNat : Int) = 126
      · have t1 : ((s[0].toNat : Int) == 126) = true := by simpa using c1
        clear c1
        cases d <;> cases t
        all_goals
          go_wp2_with fail
          refine (CL.out _).mono ?_
          rintro e w1 ⟨rfl, rfl⟩
          go_wp2_with fail
          refine (CD.out _).mono ?_
          rintro e w1 ⟨rfl, rfl⟩
          go_wp2_with fail
          go_ret
          exact ⟨⟨s, rfl, HNo.out (by rw [HI.out, t1]; rfl)⟩, rfl⟩
      · have t1 : ((s[0].toNat : Int) == 126) = false := by simpa using c1
        clear c1
        by_cases c2 : (s[0].toNat : Int) = 94
        · have t2 : ((s[0].toNat : Int) == 94) = true := by simpa using c2
          clear c2
          cases d <;> cases t
          all_goals
            go_wp2_with fail
            refine (CL.out _).mono ?_
            rintro e w1 ⟨rfl, rfl⟩
            go_wp2_with fail
            refine (CD.out _).mono ?_
            rintro e w1 ⟨rfl, rfl⟩
            go_wp2_with fail
            go_ret
            exact ⟨⟨s, rfl, HNo.out (by rw [HI.out, t1, t2]; rfl)⟩, rfl⟩
        · have t2 : ((s[0].toNat : Int) == 94) = false := by simpa using c2
          clear c2
          cases d <;> cases t
          all_goals
            go_wp2_with fail
            refine (CL.out _).mono ?_
            rintro e w1 ⟨rfl, rfl⟩
            go_wp2_with fail
            refine (CD.out _).mono ?_
            rintro e w1 ⟨rfl, rfl⟩
            go_wp2_with fail
            first
            | (go_ret
               exact ⟨⟨s, rfl, HNo.out (by rw [HI.out, t1, t2]; rfl)⟩, rfl⟩)
            | (go_round
               case rel => exact ⟨_, rfl, by rw [HS1.out]; omega, HY.out (by rw [HI.out, t1, t2]; rfl)⟩
               case measure => show (s.extract 1 s.size).size < s.size; rw [HS1.out]; omega)
    · have k0 : ¬ (0 : Int) < (s.size : Int) := by omega
      have HV : Hid (s.data.toList = strip s0.data.toList) := by
        show s.data.toList = _
        rw [← hn.out, list_nil (by omega)]; rfl
      clear hn
      go_wp2_with fail
      go_ret
      exact ⟨⟨s, rfl, HV.out⟩, rfl⟩

def runP (digital : Bool) : UInt8 → Bool := if digital then isDg else isLt
set_option maxHeartbeats 2000000 in
set_option maxRecDepth 100000 in
theorem refRun_any (s : ByteArray) (digital : Bool) (hs : s.size ≤ maxLen) (w : World) :
    Calls Tryd.prog 63 #[.string s, .bool digital] w fun e w' => e = .returned (.int .i64 ((s.data.toList.takeWhile (runP digital)).length : Nat)) ∧ w = w' := by
  unfold maxLen at hs
  go_enter Tryd.func63, Tryd.ntmps63
  go_wp2_with fail
  go_loop [5] (fun n => ∃ k : Nat, k ≤ s.size ∧ n = .int .i64 (k : Int) ∧ Hid ((s.data.toList.take k).all (runP digital) = true)) (fun n => s.size - (intOf n).toNat)
  case atStart => exact ⟨0, Nat.zero_le _, rfl, show ((s.data.toList.take 0).all (runP digital) = true) from rfl⟩
  case round =>
    obtain ⟨k, hk, rfl, hall⟩ := hrel
    by_cases hlt : k < s.size
    · have CL := Lib.hid (refLetter_any s[k])
      have CD := Lib.hid (refDigit_any s[k])
      have HB := Lib.hid (byte_at hlt)
      have HP := Lib.hid (show runP digital s[k] = if digital then isDg s[k] else isLt s[k] by unfold runP; split <;> rfl)
      have HY := Lib.hid (fun (h : runP digital s[k] = true) => all_snoc hall.out HB.out h)
      have HNo := Lib.hid (fun (h : runP digital s[k] = false) => while_is hall.out (by simpa using hk) (fun c hc => by rw [HB.out] at hc; injection hc with hc; rw [← hc]; exact h))
      clear hall
      generalize runP digital s[k] = r at *
      generalize isDg s[k] = d at *
      generalize isLt s[k] = t at *
      generalize hzz : (s.data.toList.takeWhile (runP digital)).length = z at *
      have HZZ := Lib.hid hzz
      clear hzz
      cases r
      · have HN2 : Hid (k = z) := HNo.out rfl
        clear HNo HY
        cases digital <;> cases d <;> cases t
        all_goals
          first
          | exact absurd HP.out (by decide)
          | (clear HP
             go_wp2_with fail
             refine (CL.out _).mono ?_
             rintro e w1 ⟨rfl, rfl⟩
             go_wp2_with fail
             refine (CD.out _).mono ?_
             rintro e w1 ⟨rfl, rfl⟩
             go_wp2_with fail
             go_ret
             exact ⟨by rw [HZZ.out, ← HN2.out]; rfl, rfl⟩)
      · have HY2 : Hid ((s.data.toList.take (k + 1)).all (runP digital) = true) := HY.out rfl
        clear HNo HY
        cases digital <;> cases d <;> cases t
        all_goals
          first
          | exact absurd HP.out (by decide)
          | (clear HP
             go_wp2_with fail
             refine (CL.out _).mono ?_
             rintro e w1 ⟨rfl, rfl⟩
             go_wp2_with fail
             refine (CD.out _).mono ?_
             rintro e w1 ⟨rfl, rfl⟩
             go_wp2_with fail
             go_round
             case rel => exact ⟨k + 1, by omega, by go_num, HY2.out⟩
             case measure => simp [intOf]; omega)
    · have HN := Lib.hid (while_is hall.out (by simpa using hk) (fun c hc => by have := (List.getElem?_eq_some_iff.1 hc).1; simp at this; exact absurd this hlt))
      go_wp2_with fail
      go_ret
      rw [← HN.out]
      exact ⟨rfl, rfl⟩
end Go.Proofs.YtbfpljlgjpmmmaaDoor
