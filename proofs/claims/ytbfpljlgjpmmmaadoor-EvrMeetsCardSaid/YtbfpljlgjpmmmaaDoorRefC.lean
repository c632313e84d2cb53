/- The document's answer: Debian's texts. -/
import Derived.Test.YtbfpljlgjpmmmaaDoorRefB
namespace Go.Proofs.YtbfpljlgjpmmmaaDoor
set_option linter.unusedSimpArgs false
set_option linter.unusedVariables false
open Go.RowKit

def otherB (l : List UInt8) : Bool := !decide (rankD l = 0)
theorem rank_cons {s : ByteArray} (h : 0 < s.size) : rankD s.data.toList = if isDg s[0] then 0 else if (s[0].toNat : Int) = 126 then -1 else if isLt s[0] then (s[0].toNat : Int) else (256 : Int) + (s[0].toNat : Int) := by
  have e1 : ((s[0].toNat : Int) = 126) = (s[0].toNat = 126) := by apply propext; omega
  rw [list_cons h]
  simp only [rankD, e1]
set_option maxRecDepth 100000 in
theorem refOther_any (s : ByteArray) (w : World) : Calls Tryd.prog 61 #[.string s] w fun e w' => e = .returned (.bool (otherB s.data.toList)) ∧ w = w' := by
  by_cases h : s.size = 0
  · obtain rfl := empty_of h
    clear h
    go_enter Tryd.func61, Tryd.ntmps61
    go_wp2_with fail
    go_ret
    exact ⟨rfl, rfl⟩
  · have hpos : 0 < s.size := by omega
    have hi : (0 : Int) < (s.size : Int) := by omega
    have hne : ((s.size : Int) == 0) = false := beq_eq_false_iff_ne.2 (by omega)
    have hne2 : (s.size == 0) = false := beq_eq_false_iff_ne.2 h
    have HO : Hid (otherB s.data.toList = !isDg s[0]) := by
      show otherB _ = _
      unfold otherB
      rw [rank_cons hpos]
      cases hd : isDg s[0] with
      | true => simp
      | false =>
        have hlo : isLt s[0] = true → (s[0].toNat : Int) ≠ 0 := fun hl => by unfold isLt at hl; simp at hl; omega
        simp only [Bool.false_eq_true, if_false]
        split
        · rfl
        · split
          · rename_i hl; simp [hlo hl]; have := hlo hl; omega
          · have : ¬ ((256 : Int) + (s[0].toNat : Int) = 0) := by omega
            simp [this]
    have CD := Lib.hid (refDigit_any s[0])
    generalize isDg s[0] = d at *
    clear h
    go_enter Tryd.func61, Tryd.ntmps61
    go_wp2_with fail
    refine (CD.out _).mono ?_
    rintro e w' ⟨rfl, rfl⟩
    go_wp2_with fail
    go_ret
    exact ⟨ret_bool (by rw [HO.out]), rfl⟩
set_option maxHeartbeats 1000000 in
set_option maxRecDepth 100000 in
theorem refWeight_any (s : ByteArray) (w : World) : Calls Tryd.prog 62 #[.string s] w fun e w' => e = .returned (.int .i64 (rankD s.data.toList)) ∧ w = w' := by
  by_cases h : s.size = 0
  · obtain rfl := empty_of h
    clear h
    go_enter Tryd.func62, Tryd.ntmps62
    go_wp2_with fail
    go_ret
    exact ⟨rfl, rfl⟩
  · have hpos : 0 < s.size := by omega
    have hi : (0 : Int) < (s.size : Int) := by omega
    have hne : ((s.size : Int) == 0) = false := beq_eq_false_iff_ne.2 (by omega)
    have hne2 : (s.size == 0) = false := beq_eq_false_iff_ne.2 h
    have HR := Lib.hid (rank_cons hpos)
    have CD := Lib.hid (refDigit_any s[0])
    have CL := Lib.hid (refLetter_any s[0])
    have hb : (s[0].toNat : Int) ≤ 255 := by have := UInt8.toNat_lt s[0]; omega
    have hb0 : (0 : Int) ≤ (s[0].toNat : Int) := by omega
    generalize isDg s[0] = d at *
    generalize isLt s[0] = l at *
    clear h
    cases d
    · by_cases h1 : (s[0].toNat : Int) = 126
      · have t1 : ((s[0].toNat : Int) == 126) = true := by simpa using h1
        have HV : Hid (rankD s.data.toList = -1) := by show rankD _ = _; rw [HR.out, if_neg (by decide), if_pos h1]
        clear HR h1
        cases l
        all_goals
          go_enter Tryd.func62, Tryd.ntmps62
          go_wp2_with fail
          refine (CD.out _).mono ?_
          rintro e w' ⟨rfl, rfl⟩
          go_wp2_with fail
          refine (CL.out _).mono ?_
          rintro e w' ⟨rfl, rfl⟩
          go_wp2_with fail
          go_ret
          exact ⟨by rw [HV.out]; rfl, rfl⟩
      · have t1 : ((s[0].toNat : Int) == 126) = false := by simpa using h1
        cases l
        · have HV : Hid (rankD s.data.toList = (s[0].toNat : Int) + 256) := by show rankD _ = _; rw [HR.out, if_neg (by decide), if_neg h1, if_neg (by decide)]; omega
          clear HR h1
          go_enter Tryd.func62, Tryd.ntmps62
          go_wp2_with fail
          refine (CD.out _).mono ?_
          rintro e w' ⟨rfl, rfl⟩
          go_wp2_with fail
          refine (CL.out _).mono ?_
          rintro e w' ⟨rfl, rfl⟩
          go_wp2_with fail
          go_ret
          exact ⟨by rw [HV.out]; rfl, rfl⟩
        · have HV : Hid (rankD s.data.toList = (s[0].toNat : Int)) := by show rankD _ = _; rw [HR.out, if_neg (by decide), if_neg h1, if_pos rfl]
          clear HR h1
          go_enter Tryd.func62, Tryd.ntmps62
          go_wp2_with fail
          refine (CD.out _).mono ?_
          rintro e w' ⟨rfl, rfl⟩
          go_wp2_with fail
          refine (CL.out _).mono ?_
          rintro e w' ⟨rfl, rfl⟩
          go_wp2_with fail
          go_ret
          exact ⟨by rw [HV.out]; rfl, rfl⟩
    · have HV : Hid (rankD s.data.toList = 0) := by show rankD _ = _; rw [HR.out, if_pos rfl]
      clear HR
      cases l
      all_goals
        go_enter Tryd.func62, Tryd.ntmps62
        go_wp2_with fail
        refine (CD.out _).mono ?_
        rintro e w' ⟨rfl, rfl⟩
        go_wp2_with fail
        refine (CL.out _).mono ?_
        rintro e w' ⟨rfl, rfl⟩
        go_wp2_with fail
        go_ret
        exact ⟨by rw [HV.out]; rfl, rfl⟩
theorem rankD_bd (l : List UInt8) : -1 ≤ rankD l ∧ rankD l ≤ 511 := by
  cases l with
  | nil => simp [rankD]
  | cons c r =>
    have := UInt8.toNat_lt c
    simp only [rankD]
    split
    · omega
    · split
      · omega
      · split <;> omega
theorem sub_cmp' {a b : Int} : cmpI (a - b) 0 = cmpI a b := by unfold cmpI; split <;> split <;> (try split) <;> (try split) <;> omega

set_option maxHeartbeats 8000000 in
set_option maxRecDepth 100000 in
theorem refDeb_any (a0 b0 : ByteArray) (ha0 : a0.size ≤ maxLen) (hb0 : b0.size ≤ maxLen) (w0 : World) :
    Calls Tryd.prog 47 #[.string a0, .string b0] w0 (PostD w0 a0 b0) := by
  unfold maxLen at ha0 hb0
  go_enter Tryd.func47, Tryd.ntmps47
  go_wp2_with fail
  go_loopw [0, 1] (fun u v wr => ∃ a b : ByteArray, u = .string a ∧ v = .string b ∧ a.size ≤ a0.size ∧ b.size ≤ b0.size ∧ Hid (cmpDeb a.data.toList b.data.toList = cmpDeb a0.data.toList b0.data.toList) ∧ Hid (Below w0.heap.size w0 wr)) (fun u v _ => lenS u + lenS v)
  case atStart => exact ⟨a0, b0, rfl, rfl, Nat.le_refl _, Nat.le_refl _, show cmpDeb a0.data.toList _ = _ from rfl, Below.refl _ _⟩
  case round =>
    obtain ⟨a, b, rfl, rfl, ha, hb, hc, hB⟩ := hrel
    by_cases hz : a.size = 0 ∧ b.size = 0
    · have hc2 := hc.out
      rw [list_nil hz.1, list_nil hz.2, deb_nil] at hc2
      have HV := Lib.hid hc2
      have k1 : ¬ (0 : Int) < (a.size : Int) := by omega
      have k2 : ¬ (0 : Int) < (b.size : Int) := by omega
      have k3 : ¬ 0 < a.size := by omega
      have k4 : ¬ 0 < b.size := by omega
      clear hc hc2 hz
      go_wp2_with fail
      go_ret
      exact ⟨by rw [← HV.out]; rfl, hB.out⟩
    · have hcs : (0 < a.size) ∨ (a.size = 0 ∧ 0 < b.size) := by omega
      obtain ⟨wo, rfl⟩ : ∃ wo : World, wo = wr := ⟨_, rfl⟩
      rcases hcs with k1 | ⟨k1, k2⟩
      · have i1 : (0 : Int) < (a.size : Int) := by omega
        go_wp2_with fail
        go_loop [0, 1] (fun u v => ∃ a1 b1 : ByteArray, u = .string a1 ∧ v = .string b1 ∧ a1.size ≤ a.size ∧ b1.size ≤ b.size ∧ Hid (cmpDeb a1.data.toList b1.data.toList = cmpDeb a0.data.toList b0.data.toList)) (fun u v => lenS u + lenS v)
        case atStart => exact ⟨a, b, rfl, rfl, Nat.le_refl _, Nat.le_refl _, hc.out⟩
        case round =>
          obtain ⟨a1, b1, rfl, rfl, ha1, hb1, hc1⟩ := hrel
          have OA := Lib.hid (fun w => refOther_any a1 w)
          have OB := Lib.hid (fun w => refOther_any b1 w)
          unfold otherB at OA OB
          by_cases hr : rankD a1.data.toList = 0 ∧ rankD b1.data.toList = 0
          · rw [hr.1] at OA
            rw [hr.2] at OB
            change Hid (∀ w : World, Calls Tryd.prog 61 #[.string a1] w fun e w' => e = .returned (.bool false) ∧ w = w') at OA
            change Hid (∀ w : World, Calls Tryd.prog 61 #[.string b1] w fun e w' => e = .returned (.bool false) ∧ w = w') at OB
            have na : (a1.data.toList.takeWhile isDg).length ≤ a1.size := by rw [← size_len]; exact while_le _
            have nb : (b1.data.toList.takeWhile isDg).length ≤ b1.size := by rw [← size_len]; exact while_le _
            have RA := Lib.hid (fun w => refRun_any a1 true (by unfold maxLen; omega) w)
            have RB := Lib.hid (fun w => refRun_any b1 true (by unfold maxLen; omega) w)
            change Hid (∀ w : World, Calls Tryd.prog 63 #[.string a1, .bool true] w fun e w' => e = .returned (.int .i64 ((a1.data.toList.takeWhile isDg).length : Nat)) ∧ w = w') at RA
            change Hid (∀ w : World, Calls Tryd.prog 63 #[.string b1, .bool true] w fun e w' => e = .returned (.int .i64 ((b1.data.toList.takeWhile isDg).length : Nat)) ∧ w = w') at RB
            have DA := Lib.hid (drop_of_while (p := isDg) a1.data.toList)
            have DB := Lib.hid (drop_of_while (p := isDg) b1.data.toList)
            have EA : Hid ((a1.extract 0 (a1.data.toList.takeWhile isDg).length).data.toList = numP a1.data.toList) := (bl_upto _ _).trans (take_of_while _).symm
            have EB : Hid ((b1.extract 0 (b1.data.toList.takeWhile isDg).length).data.toList = numP b1.data.toList) := (bl_upto _ _).trans (take_of_while _).symm
            have HS := Lib.hid (And.intro (deb_less hr.1) (deb_less hr.2))
            have CN := Lib.hid (fun w => refNumber_any (a1.extract 0 (a1.data.toList.takeWhile isDg).length) (b1.extract 0 (b1.data.toList.takeWhile isDg).length) (by simp; unfold maxLen; omega) (by simp; unfold maxLen; omega) w)
            rw [EA.out, EB.out] at CN
            have HNE := Lib.hid (fun h => hc1.out.symm.trans (deb_num hr.1 hr.2 h))
            have HNX := Lib.hid (fun h => hc1.out.symm.trans (deb_next hr.1 hr.2 h))
            generalize cmpNum (numP a1.data.toList) (numP b1.data.toList) = c at *
            generalize (a1.data.toList.takeWhile isDg).length = n at *
            generalize (b1.data.toList.takeWhile isDg).length = m at *
            have pa : (n : Int) ≤ (a1.size : Int) := by omega
            have pb : (m : Int) ≤ (b1.size : Int) := by omega
            clear EA EB hr hc1 hc
            by_cases h0 : c = 0
            · subst h0
              have HX := Lib.hid (HNX.out rfl)
              clear HNE HNX
              go_wp2_with fail
              refine (OA.out _).mono ?_
              rintro e w1 ⟨rfl, rfl⟩
              go_wp2_with fail
              refine (OB.out _).mono ?_
              rintro e w1 ⟨rfl, rfl⟩
              go_wp2_with fail
              refine (RA.out _).mono ?_
              rintro e w1 ⟨rfl, rfl⟩
              go_wp2_with fail
              refine (RB.out _).mono ?_
              rintro e w1 ⟨rfl, rfl⟩
              go_wp2_with fail
              go_quiet ((go_at_call 46; exact (CN.out _).mono fun _ _ h => ⟨h.1, _, h.2.symm⟩))
              go_wp2_with fail
              have XA : Hid ((a1.extract n a1.size).data.toList = a1.data.toList.dropWhile isDg) := (bl_from _ _).trans DA.out.symm
              have XB : Hid ((b1.extract m b1.size).data.toList = b1.data.toList.dropWhile isDg) := (bl_from _ _).trans DB.out.symm
              have HS2 : Hid (((a1.extract n a1.size).size ≠ 0 → (a1.extract n a1.size).size < a1.size) ∧ ((b1.extract m b1.size).size ≠ 0 → (b1.extract m b1.size).size < b1.size)) := by
                have h := HS.out
                rw [← XA.out, ← XB.out, size_len, size_len, size_len, size_len] at h
                exact ⟨fun h1 => h.1 (fun e => h1 (by rw [← size_len, e]; rfl)), fun h1 => h.2 (fun e => h1 (by rw [← size_len, e]; rfl))⟩
              have SZA : (a1.extract n a1.size).size ≤ a1.size := by simp
              have SZB : (b1.extract m b1.size).size ≤ b1.size := by simp
              rw [← XA.out, ← XB.out] at HX
              clear XA XB DA DB HS
              generalize a1.extract n a1.size = a' at *
              generalize b1.extract m b1.size = b' at *
              go_roundw
              case rel => exact ⟨a', b', rfl, rfl, by omega, by omega, HX.out.symm, below_drewN' hB.out _⟩
              case measure =>
                show a'.size + b'.size < a.size + b.size
                have h1 := HS2.out.1
                have h2 := HS2.out.2
                by_cases e1 : a'.size = 0
                · by_cases e2 : b'.size = 0
                  · omega
                  · have := h2 e2; omega
                · have := h1 e1; omega
            · have t1 : (c == 0) = false := by simpa using h0
              have t2 : (c != 0) = true := by simpa using h0
              have HX := Lib.hid (HNE.out h0)
              clear HNE HNX h0
              go_wp2_with fail
              refine (OA.out _).mono ?_
              rintro e w1 ⟨rfl, rfl⟩
              go_wp2_with fail
              refine (OB.out _).mono ?_
              rintro e w1 ⟨rfl, rfl⟩
              go_wp2_with fail
              refine (RA.out _).mono ?_
              rintro e w1 ⟨rfl, rfl⟩
              go_wp2_with fail
              refine (RB.out _).mono ?_
              rintro e w1 ⟨rfl, rfl⟩
              go_wp2_with fail
              go_quiet ((go_at_call 46; exact (CN.out _).mono fun _ _ h => ⟨h.1, _, h.2.symm⟩))
              go_wp2_with fail
              go_ret
              exact ⟨by rw [HX.out]; rfl, below_drewN' hB.out _⟩
          · have WA := Lib.hid (fun w => refWeight_any a1 w)
            have WB := Lib.hid (fun w => refWeight_any b1 w)
            have CS := Lib.hid (fun w => refSign_any (rankD a1.data.toList - rankD b1.data.toList) w)
            rw [sub_cmp'] at CS
            have bda := rankD_bd a1.data.toList
            have bdb := rankD_bd b1.data.toList
            by_cases he : rankD a1.data.toList = rankD b1.data.toList
            · have h0 : rankD a1.data.toList ≠ 0 := fun e => hr ⟨e, he ▸ e⟩
              obtain ⟨e1, e2, e3⟩ := deb_tail he h0
              have HT0 := Lib.hid (hc1.out.symm.trans e1)
              have hpa : 0 < a1.size := by rw [← size_len]; exact List.length_pos_iff.2 e2
              have hpb : 0 < b1.size := by rw [← size_len]; exact List.length_pos_iff.2 e3
              have ia : (1 : Int) ≤ (a1.size : Int) := by omega
              have ib : (1 : Int) ≤ (b1.size : Int) := by omega
              rw [decide_eq_false h0] at OA
              rw [he, Int.sub_self, cmpI_self] at CS
              rw [he] at WA
              change Hid (∀ w : World, Calls Tryd.prog 61 #[.string a1] w fun e w' => e = .returned (.bool true) ∧ w = w') at OA
              have SA := Lib.hid (show (a1.extract 1 a1.size).size = a1.size - 1 by simp)
              have SB := Lib.hid (show (b1.extract 1 b1.size).size = b1.size - 1 by simp)
              have LA := Lib.hid (bl_tail (s := a1))
              have LB := Lib.hid (bl_tail (s := b1))
              generalize rankD b1.data.toList = rb at *
              generalize (!decide (rb = 0)) = ob at *
              clear hr he h0 e1 e2 e3 hc1 bda hc
              go_wp2_with fail
              refine (OA.out _).mono ?_
              rintro e w1 ⟨rfl, rfl⟩
              go_wp2_with fail
              refine (OB.out _).mono ?_
              rintro e w1 ⟨rfl, rfl⟩
              go_wp2_with fail
              refine (WA.out _).mono ?_
              rintro e w1 ⟨rfl, rfl⟩
              go_wp2_with fail
              refine (WB.out _).mono ?_
              rintro e w1 ⟨rfl, rfl⟩
              go_wp2_with fail
              refine (CS.out _).mono ?_
              rintro e w1 ⟨rfl, rfl⟩
              go_wp2_with fail
              go_round
              case rel => exact ⟨_, _, rfl, rfl, by rw [SA.out]; omega, by rw [SB.out]; omega, show cmpDeb _ _ = _ by rw [LA.out, LB.out]; exact HT0.out.symm⟩
              case measure => show (a1.extract 1 a1.size).size + (b1.extract 1 b1.size).size < a1.size + b1.size; rw [SA.out, SB.out]; omega
            · have HR := Lib.hid (hc1.out.symm.trans (deb_ne he))
              have hcn := cmpI_ne he
              generalize rankD a1.data.toList = ra at *
              generalize rankD b1.data.toList = rb at *
              have c1 : (cmpI ra rb == 0) = false := by simpa using hcn
              have c2 : (cmpI ra rb != 0) = true := by simpa using hcn
              generalize cmpI ra rb = c at *
              by_cases ra0 : ra = 0
              · have rb0 : rb ≠ 0 := fun e => hr ⟨ra0, e⟩
                rw [decide_eq_true ra0] at OA
                rw [decide_eq_false rb0] at OB
                change Hid (∀ w : World, Calls Tryd.prog 61 #[.string a1] w fun e w' => e = .returned (.bool false) ∧ w = w') at OA
                change Hid (∀ w : World, Calls Tryd.prog 61 #[.string b1] w fun e w' => e = .returned (.bool true) ∧ w = w') at OB
                clear hr he hcn ra0 rb0 hc1 hc
                go_wp2_with fail
                refine (OA.out _).mono ?_
                rintro e w1 ⟨rfl, rfl⟩
                go_wp2_with fail
                refine (OB.out _).mono ?_
                rintro e w1 ⟨rfl, rfl⟩
                go_wp2_with fail
                refine (WA.out _).mono ?_
                rintro e w1 ⟨rfl, rfl⟩
                go_wp2_with fail
                refine (WB.out _).mono ?_
                rintro e w1 ⟨rfl, rfl⟩
                go_wp2_with fail
                refine (CS.out _).mono ?_
                rintro e w1 ⟨rfl, rfl⟩
                go_wp2_with fail
                go_ret
                exact ⟨by rw [HR.out]; rfl, hB.out⟩
              · rw [decide_eq_false ra0] at OA
                change Hid (∀ w : World, Calls Tryd.prog 61 #[.string a1] w fun e w' => e = .returned (.bool true) ∧ w = w') at OA
                generalize (!decide (rb = 0)) = ob at *
                clear hr he hcn ra0 hc1 hc
                go_wp2_with fail
                refine (OA.out _).mono ?_
                rintro e w1 ⟨rfl, rfl⟩
                go_wp2_with fail
                refine (OB.out _).mono ?_
                rintro e w1 ⟨rfl, rfl⟩
                go_wp2_with fail
                refine (WA.out _).mono ?_
                rintro e w1 ⟨rfl, rfl⟩
                go_wp2_with fail
                refine (WB.out _).mono ?_
                rintro e w1 ⟨rfl, rfl⟩
                go_wp2_with fail
                refine (CS.out _).mono ?_
                rintro e w1 ⟨rfl, rfl⟩
                go_wp2_with fail
                go_ret
                exact ⟨by rw [HR.out]; rfl, hB.out⟩
      · have i1 : ¬ (0 : Int) < (a.size : Int) := by omega
        have i2 : (0 : Int) < (b.size : Int) := by omega
        go_wp2_with fail
        go_loop [0, 1] (fun u v => ∃ a1 b1 : ByteArray, u = .string a1 ∧ v = .string b1 ∧ a1.size ≤ a.size ∧ b1.size ≤ b.size ∧ Hid (cmpDeb a1.data.toList b1.data.toList = cmpDeb a0.data.toList b0.data.toList)) (fun u v => lenS u + lenS v)
        case atStart => exact ⟨a, b, rfl, rfl, Nat.le_refl _, Nat.le_refl _, hc.out⟩
        case round =>
          obtain ⟨a1, b1, rfl, rfl, ha1, hb1, hc1⟩ := hrel
          have OA := Lib.hid (fun w => refOther_any a1 w)
          have OB := Lib.hid (fun w => refOther_any b1 w)
          unfold otherB at OA OB
          by_cases hr : rankD a1.data.toList = 0 ∧ rankD b1.data.toList = 0
          · rw [hr.1] at OA
            rw [hr.2] at OB
            change Hid (∀ w : World, Calls Tryd.prog 61 #[.string a1] w fun e w' => e = .returned (.bool false) ∧ w = w') at OA
            change Hid (∀ w : World, Calls Tryd.prog 61 #[.string b1] w fun e w' => e = .returned (.bool false) ∧ w = w') at OB
            have na : (a1.data.toList.takeWhile isDg).length ≤ a1.size := by rw [← size_len]; exact while_le _
            have nb : (b1.data.toList.takeWhile isDg).length ≤ b1.size := by rw [← size_len]; exact while_le _
            have RA := Lib.hid (fun w => refRun_any a1 true (by unfold maxLen; omega) w)
            have RB := Lib.hid (fun w => refRun_any b1 true (by unfold maxLen; omega) w)
            change Hid (∀ w : World, Calls Tryd.prog 63 #[.string a1, .bool true] w fun e w' => e = .returned (.int .i64 ((a1.data.toList.takeWhile isDg).length : Nat)) ∧ w = w') at RA
            change Hid (∀ w : World, Calls Tryd.prog 63 #[.string b1, .bool true] w fun e w' => e = .returned (.int .i64 ((b1.data.toList.takeWhile isDg).length : Nat)) ∧ w = w') at RB
            have DA := Lib.hid (drop_of_while (p := isDg) a1.data.toList)
            have DB := Lib.hid (drop_of_while (p := isDg) b1.data.toList)
            have EA : Hid ((a1.extract 0 (a1.data.toList.takeWhile isDg).length).data.toList = numP a1.data.toList) := (bl_upto _ _).trans (take_of_while _).symm
            have EB : Hid ((b1.extract 0 (b1.data.toList.takeWhile isDg).length).data.toList = numP b1.data.toList) := (bl_upto _ _).trans (take_of_while _).symm
            have HS := Lib.hid (And.intro (deb_less hr.1) (deb_less hr.2))
            have CN := Lib.hid (fun w => refNumber_any (a1.extract 0 (a1.data.toList.takeWhile isDg).length) (b1.extract 0 (b1.data.toList.takeWhile isDg).length) (by simp; unfold maxLen; omega) (by simp; unfold maxLen; omega) w)
            rw [EA.out, EB.out] at CN
            have HNE := Lib.hid (fun h => hc1.out.symm.trans (deb_num hr.1 hr.2 h))
            have HNX := Lib.hid (fun h => hc1.out.symm.trans (deb_next hr.1 hr.2 h))
            generalize cmpNum (numP a1.data.toList) (numP b1.data.toList) = c at *
            generalize (a1.data.toList.takeWhile isDg).length = n at *
            generalize (b1.data.toList.takeWhile isDg).length = m at *
            have pa : (n : Int) ≤ (a1.size : Int) := by omega
            have pb : (m : Int) ≤ (b1.size : Int) := by omega
            clear EA EB hr hc1 hc
            by_cases h0 : c = 0
            · subst h0
              have HX := Lib.hid (HNX.out rfl)
              clear HNE HNX
              go_wp2_with fail
              refine (OA.out _).mono ?_
              rintro e w1 ⟨rfl, rfl⟩
              go_wp2_with fail
              refine (OB.out _).mono ?_
              rintro e w1 ⟨rfl, rfl⟩
              go_wp2_with fail
              refine (RA.out _).mono ?_
              rintro e w1 ⟨rfl, rfl⟩
              go_wp2_with fail
              refine (RB.out _).mono ?_
              rintro e w1 ⟨rfl, rfl⟩
              go_wp2_with fail
              go_quiet ((go_at_call 46; exact (CN.out _).mono fun _ _ h => ⟨h.1, _, h.2.symm⟩))
              go_wp2_with fail
              have XA : Hid ((a1.extract n a1.size).data.toList = a1.data.toList.dropWhile isDg) := (bl_from _ _).trans DA.out.symm
              have XB : Hid ((b1.extract m b1.size).data.toList = b1.data.toList.dropWhile isDg) := (bl_from _ _).trans DB.out.symm
              have HS2 : Hid (((a1.extract n a1.size).size ≠ 0 → (a1.extract n a1.size).size < a1.size) ∧ ((b1.extract m b1.size).size ≠ 0 → (b1.extract m b1.size).size < b1.size)) := by
                have h := HS.out
                rw [← XA.out, ← XB.out, size_len, size_len, size_len, size_len] at h
                exact ⟨fun h1 => h.1 (fun e => h1 (by rw [← size_len, e]; rfl)), fun h1 => h.2 (fun e => h1 (by rw [← size_len, e]; rfl))⟩
              have SZA : (a1.extract n a1.size).size ≤ a1.size := by simp
              have SZB : (b1.extract m b1.size).size ≤ b1.size := by simp
              rw [← XA.out, ← XB.out] at HX
              clear XA XB DA DB HS
              generalize a1.extract n a1.size = a' at *
              generalize b1.extract m b1.size = b' at *
              go_roundw
              case rel => exact ⟨a', b', rfl, rfl, by omega, by omega, HX.out.symm, below_drewN' hB.out _⟩
              case measure =>
                show a'.size + b'.size < a.size + b.size
                have h1 := HS2.out.1
                have h2 := HS2.out.2
                by_cases e1 : a'.size = 0
                · by_cases e2 : b'.size = 0
                  · omega
                  · have := h2 e2; omega
                · have := h1 e1; omega
            · have t1 : (c == 0) = false := by simpa using h0
              have t2 : (c != 0) = true := by simpa using h0
              have HX := Lib.hid (HNE.out h0)
              clear HNE HNX h0
              go_wp2_with fail
              refine (OA.out _).mono ?_
              rintro e w1 ⟨rfl, rfl⟩
              go_wp2_with fail
              refine (OB.out _).mono ?_
              rintro e w1 ⟨rfl, rfl⟩
              go_wp2_with fail
              refine (RA.out _).mono ?_
              rintro e w1 ⟨rfl, rfl⟩
              go_wp2_with fail
              refine (RB.out _).mono ?_
              rintro e w1 ⟨rfl, rfl⟩
              go_wp2_with fail
              go_quiet ((go_at_call 46; exact (CN.out _).mono fun _ _ h => ⟨h.1, _, h.2.symm⟩))
              go_wp2_with fail
              go_ret
              exact ⟨by rw [HX.out]; rfl, below_drewN' hB.out _⟩
          · have WA := Lib.hid (fun w => refWeight_any a1 w)
            have WB := Lib.hid (fun w => refWeight_any b1 w)
            have CS := Lib.hid (fun w => refSign_any (rankD a1.data.toList - rankD b1.data.toList) w)
            rw [sub_cmp'] at CS
            have bda := rankD_bd a1.data.toList
            have bdb := rankD_bd b1.data.toList
            by_cases he : rankD a1.data.toList = rankD b1.data.toList
            · have h0 : rankD a1.data.toList ≠ 0 := fun e => hr ⟨e, he ▸ e⟩
              obtain ⟨e1, e2, e3⟩ := deb_tail he h0
              have HT0 := Lib.hid (hc1.out.symm.trans e1)
              have hpa : 0 < a1.size := by rw [← size_len]; exact List.length_pos_iff.2 e2
              have hpb : 0 < b1.size := by rw [← size_len]; exact List.length_pos_iff.2 e3
              have ia : (1 : Int) ≤ (a1.size : Int) := by omega
              have ib : (1 : Int) ≤ (b1.size : Int) := by omega
              rw [decide_eq_false h0] at OA
              rw [he, Int.sub_self, cmpI_self] at CS
              rw [he] at WA
              change Hid (∀ w : World, Calls Tryd.prog 61 #[.string a1] w fun e w' => e = .returned (.bool true) ∧ w = w') at OA
              have SA := Lib.hid (show (a1.extract 1 a1.size).size = a1.size - 1 by simp)
              have SB := Lib.hid (show (b1.extract 1 b1.size).size = b1.size - 1 by simp)
              have LA := Lib.hid (bl_tail (s := a1))
              have LB := Lib.hid (bl_tail (s := b1))
              generalize rankD b1.data.toList = rb at *
              generalize (!decide (rb = 0)) = ob at *
              clear hr he h0 e1 e2 e3 hc1 bda hc
              go_wp2_with fail
              refine (OA.out _).mono ?_
              rintro e w1 ⟨rfl, rfl⟩
              go_wp2_with fail
              refine (OB.out _).mono ?_
              rintro e w1 ⟨rfl, rfl⟩
              go_wp2_with fail
              refine (WA.out _).mono ?_
              rintro e w1 ⟨rfl, rfl⟩
              go_wp2_with fail
              refine (WB.out _).mono ?_
              rintro e w1 ⟨rfl, rfl⟩
              go_wp2_with fail
              refine (CS.out _).mono ?_
              rintro e w1 ⟨rfl, rfl⟩
              go_wp2_with fail
              go_round
              case rel => exact ⟨_, _, rfl, rfl, by rw [SA.out]; omega, by rw [SB.out]; omega, show cmpDeb _ _ = _ by rw [LA.out, LB.out]; exact HT0.out.symm⟩
              case measure => show (a1.extract 1 a1.size).size + (b1.extract 1 b1.size).size < a1.size + b1.size; rw [SA.out, SB.out]; omega
            · have HR := Lib.hid (hc1.out.symm.trans (deb_ne he))
              have hcn := cmpI_ne he
              generalize rankD a1.data.toList = ra at *
              generalize rankD b1.data.toList = rb at *
              have c1 : (cmpI ra rb == 0) = false := by simpa using hcn
              have c2 : (cmpI ra rb != 0) = true := by simpa using hcn
              generalize cmpI ra rb = c at *
              by_cases ra0 : ra = 0
              · have rb0 : rb ≠ 0 := fun e => hr ⟨ra0, e⟩
                rw [decide_eq_true ra0] at OA
                rw [decide_eq_false rb0] at OB
                change Hid (∀ w : World, Calls Tryd.prog 61 #[.string a1] w fun e w' => e = .returned (.bool false) ∧ w = w') at OA
                change Hid (∀ w : World, Calls Tryd.prog 61 #[.string b1] w fun e w' => e = .returned (.bool true) ∧ w = w') at OB
                clear hr he hcn ra0 rb0 hc1 hc
                go_wp2_with fail
                refine (OA.out _).mono ?_
                rintro e w1 ⟨rfl, rfl⟩
                go_wp2_with fail
                refine (OB.out _).mono ?_
                rintro e w1 ⟨rfl, rfl⟩
                go_wp2_with fail
                refine (WA.out _).mono ?_
                rintro e w1 ⟨rfl, rfl⟩
                go_wp2_with fail
                refine (WB.out _).mono ?_
                rintro e w1 ⟨rfl, rfl⟩
                go_wp2_with fail
                refine (CS.out _).mono ?_
                rintro e w1 ⟨rfl, rfl⟩
                go_wp2_with fail
                go_ret
                exact ⟨by rw [HR.out]; rfl, hB.out⟩
              · rw [decide_eq_false ra0] at OA
                change Hid (∀ w : World, Calls Tryd.prog 61 #[.string a1] w fun e w' => e = .returned (.bool true) ∧ w = w') at OA
                generalize (!decide (rb = 0)) = ob at *
                clear hr he hcn ra0 hc1 hc
                go_wp2_with fail
                refine (OA.out _).mono ?_
                rintro e w1 ⟨rfl, rfl⟩
                go_wp2_with fail
                refine (OB.out _).mono ?_
                rintro e w1 ⟨rfl, rfl⟩
                go_wp2_with fail
                refine (WA.out _).mono ?_
                rintro e w1 ⟨rfl, rfl⟩
                go_wp2_with fail
                refine (WB.out _).mono ?_
                rintro e w1 ⟨rfl, rfl⟩
                go_wp2_with fail
                refine (CS.out _).mono ?_
                rintro e w1 ⟨rfl, rfl⟩
                go_wp2_with fail
                go_ret
                exact ⟨by rw [HR.out]; rfl, hB.out⟩
end Go.Proofs.YtbfpljlgjpmmmaaDoor
