/- The document's answer: rpm's texts. -/
import Derived.Test.YtbfpljlgjpmmmaaDoorRefC
import Derived.Test.YtbfpljlgjpmmmaaDoorRpm
namespace Go.Proofs.YtbfpljlgjpmmmaaDoor
set_option linter.unusedSimpArgs false
set_option linter.unusedVariables false
open Go.RowKit

theorem rk_at {s : ByteArray} (h : 0 < s.size) : rankR s.data.toList = if s[0].toNat = 126 then (0 : Int) else if s[0].toNat = 94 then (2 : Int) else if isDg s[0] then (4 : Int) else (3 : Int) := by
  rw [list_cons h]; rfl
theorem rk_pos {s : ByteArray} (h : rankR s.data.toList ≠ 1) : 0 < s.size := by
  rcases Nat.eq_zero_or_pos s.size with h0 | h0
  · rw [list_nil h0] at h; exact absurd rfl h
  · exact h0
theorem rk0 {s : ByteArray} (h : rankR s.data.toList = 0) : ∃ hp : 0 < s.size, ((s[0].toNat : Int) == 126) = true := by
  have hp := rk_pos (s := s) (by omega)
  refine ⟨hp, ?_⟩
  rw [rk_at hp] at h
  by_cases h1 : s[0].toNat = 126
  · simp [h1]
  · rw [if_neg h1] at h
    split at h
    · cases h
    · split at h <;> cases h
theorem rk1 {s : ByteArray} (h : rankR s.data.toList = 1) : s = ⟨#[]⟩ := by
  refine empty_of ?_
  rcases Nat.eq_zero_or_pos s.size with h0 | h0
  · exact h0
  · rw [rk_at h0] at h
    split at h
    · cases h
    · split at h
      · cases h
      · split at h <;> cases h
theorem rk2 {s : ByteArray} (h : rankR s.data.toList = 2) : ∃ hp : 0 < s.size, ((s[0].toNat : Int) == 126) = false ∧ ((s[0].toNat : Int) == 94) = true := by
  have hp := rk_pos (s := s) (by omega)
  refine ⟨hp, ?_⟩
  rw [rk_at hp] at h
  by_cases h1 : s[0].toNat = 126
  · rw [if_pos h1] at h; cases h
  · rw [if_neg h1] at h
    by_cases h2 : s[0].toNat = 94
    · exact ⟨beq_eq_false_iff_ne.2 (by omega), by simp [h2]⟩
    · rw [if_neg h2] at h
      split at h <;> cases h
theorem rk34 {s : ByteArray} {d : Bool} (h : rankR s.data.toList = if d then 4 else 3) : ∃ hp : 0 < s.size, ((s[0].toNat : Int) == 126) = false ∧ ((s[0].toNat : Int) == 94) = false ∧ isDg s[0] = d := by
  have hp := rk_pos (s := s) (by cases d <;> simp at h <;> omega)
  refine ⟨hp, ?_⟩
  rw [rk_at hp] at h
  by_cases h1 : s[0].toNat = 126
  · rw [if_pos h1] at h; cases d <;> cases h
  · rw [if_neg h1] at h
    by_cases h2 : s[0].toNat = 94
    · rw [if_pos h2] at h; cases d <;> cases h
    · rw [if_neg h2] at h
      refine ⟨beq_eq_false_iff_ne.2 (by omega), beq_eq_false_iff_ne.2 (by omega), ?_⟩
      cases hd : isDg s[0] <;> rw [hd] at h <;> cases d <;> first | rfl | cases h
theorem rk3 {s : ByteArray} {l : List UInt8} (e : s.data.toList = strip l) (h : rankR (strip l) = 3) : ∃ hp : 0 < s.size, ((s[0].toNat : Int) == 126) = false ∧ ((s[0].toNat : Int) == 94) = false ∧ isDg s[0] = false ∧ isLt s[0] = true := by
  obtain ⟨hp, h1, h2, h3⟩ := rk34 (s := s) (d := false) (by rw [e]; exact h)
  refine ⟨hp, h1, h2, h3, ?_⟩
  have hi : isIdle s[0] = false := dropWhile_head isIdle (l := l) (r := s.data.toList.tail) (by rw [← list_cons hp]; exact e.symm)
  rcases rank_cases hi with k | k | k | k
  · rw [k] at h1; cases h1
  · rw [k] at h2; cases h2
  · rw [h3] at k; cases k
  · exact k
theorem rk4 {s : ByteArray} {l : List UInt8} (e : s.data.toList = strip l) (h : rankR (strip l) = 4) : ∃ hp : 0 < s.size, ((s[0].toNat : Int) == 126) = false ∧ ((s[0].toNat : Int) == 94) = false ∧ isDg s[0] = true := rk34 (s := s) (d := true) (by rw [e]; exact h)
theorem dg_lt {c : UInt8} (h : isDg c = true) : isLt c = false := by
  unfold isDg at h; unfold isLt; simp at h ⊢; omega
theorem run_no {s : ByteArray} {p : UInt8 → Bool} (hp : 0 < s.size) (h : p s[0] = false) : (s.data.toList.takeWhile p).length = 0 := by
  rw [list_cons hp, List.takeWhile_cons, h]; rfl
theorem run_yes {s : ByteArray} {p : UInt8 → Bool} (hp : 0 < s.size) (h : p s[0] = true) : 0 < (s.data.toList.takeWhile p).length := by
  rw [list_cons hp, List.takeWhile_cons, h]; simp
theorem refRun_zero (s : ByteArray) (d : Bool) (hs : s.size ≤ maxLen) (h : (s.data.toList.takeWhile (runP d)).length = 0) (w : World) :
    Calls Tryd.prog 63 #[.string s, .bool d] w fun e w' => e = .returned (.int .i64 0) ∧ w = w' := by
  have C := refRun_any s d hs w
  rw [h] at C
  exact C
theorem refRun_is (s : ByteArray) (d : Bool) (hs : s.size ≤ maxLen) (p : UInt8 → Bool) (h : runP d = p) (w : World) :
    Calls Tryd.prog 63 #[.string s, .bool d] w fun e w' => e = .returned (.int .i64 ((s.data.toList.takeWhile p).length : Nat)) ∧ w = w' := by
  subst h
  exact refRun_any s d hs w
theorem ret_int {a b : Int} (h : a = b) : Ending.returned (.int .i64 a) = Ending.returned (.int .i64 b) := by rw [h]
theorem rpm_ne' {a b : List UInt8} {x y : Int} (h : rankR (strip a) = x) (h' : rankR (strip b) = y) (n : x ≠ y) : cmpRpm a b = cmpI x y := by
  rw [rpm_ne (by rw [h, h']; exact n), h, h']

set_option maxHeartbeats 16000000 in
set_option maxRecDepth 1000000 in
theorem refRpm_any (a0 b0 : ByteArray) (ha0 : a0.size ≤ maxLen) (hb0 : b0.size ≤ maxLen) (w0 : World) :
    Calls Tryd.prog 48 #[.string a0, .string b0] w0 (PostR w0 a0 b0) := by
  unfold maxLen at ha0 hb0
  go_enter Tryd.func48, Tryd.ntmps48
  go_wp2_with fail
  go_loopw [0, 1] (fun u v wr => ∃ a b : ByteArray, u = .string a ∧ v = .string b ∧ a.size ≤ a0.size ∧ b.size ≤ b0.size ∧ Hid (cmpRpm a.data.toList b.data.toList = cmpRpm a0.data.toList b0.data.toList) ∧ Hid (Below w0.heap.size w0 wr)) (fun u v _ => lenS u + lenS v)
  case atStart => exact ⟨a0, b0, rfl, rfl, Nat.le_refl _, Nat.le_refl _, show cmpRpm a0.data.toList _ = _ from rfl, Below.refl _ _⟩
  case round =>
    obtain ⟨a, b, rfl, rfl, ha, hb, hc⟩ := hrel
    obtain ⟨hc, hB⟩ := hc
    have SA := Lib.hid (fun w => refSkipped_any a (by unfold maxLen; omega) w)
    have SB := Lib.hid (fun w => refSkipped_any b (by unfold maxLen; omega) w)
    rcases rank_kinds a.data.toList with ka | ka | ka | ka | ka
    · rcases rank_kinds b.data.toList with kb | kb | kb | kb | kb
      · obtain ⟨e1, e2, e3⟩ := rpm_tail (ka.trans kb.symm) (.inl kb)
        have HT0 := Lib.hid (hc.out.symm.trans e1)
        clear e1 e2 e3
        go_wp2_with fail
        refine (SA.out _).mono ?_
        rintro e w1 ⟨⟨a1, rfl, ea⟩, rfl⟩
        go_wp2_with fail
        refine (SB.out _).mono ?_
        rintro e w1 ⟨⟨b1, rfl, eb⟩, rfl⟩
        have za : a1.size ≤ a.size := by rw [← size_len, ← size_len, ea]; exact strip_le _
        have zb : b1.size ≤ b.size := by rw [← size_len, ← size_len, eb]; exact strip_le _
        clear SA SB
        obtain ⟨pa, ax⟩ := rk0 (s := a1) (by rw [ea]; exact ka)
        have ia : (0 : Int) < (a1.size : Int) := by omega
        have ja : (1 : Int) ≤ (a1.size : Int) := by omega
        have na : ((a1.size : Int) == 0) = false := beq_eq_false_iff_ne.2 (by omega)
        have ma : ¬ a1.size = 0 := by omega
        have oa : ¬ (a1.size : Int) = 0 := by omega
        obtain ⟨pb, bx⟩ := rk0 (s := b1) (by rw [eb]; exact kb)
        have ib : (0 : Int) < (b1.size : Int) := by omega
        have jb : (1 : Int) ≤ (b1.size : Int) := by omega
        have nb : ((b1.size : Int) == 0) = false := beq_eq_false_iff_ne.2 (by omega)
        have mb : ¬ b1.size = 0 := by omega
        have ob : ¬ (b1.size : Int) = 0 := by omega
        have LA : Hid ((a1.extract 1 a1.size).data.toList = (strip a.data.toList).tail) := by show _ = _; rw [bl_tail, ea]
        have LB : Hid ((b1.extract 1 b1.size).data.toList = (strip b.data.toList).tail) := by show _ = _; rw [bl_tail, eb]
        have ZA := Lib.hid (show (a1.extract 1 a1.size).size = a1.size - 1 by simp)
        have ZB := Lib.hid (show (b1.extract 1 b1.size).size = b1.size - 1 by simp)
        clear ka kb ea eb hc
        go_wp2_with fail
        go_roundw
        case rel => exact ⟨_, _, rfl, rfl, by rw [ZA.out]; omega, by rw [ZB.out]; omega, show cmpRpm _ _ = _ by rw [LA.out, LB.out]; exact HT0.out.symm, hB.out⟩
        case measure => show (a1.extract 1 a1.size).size + (b1.extract 1 b1.size).size < a.size + b.size; rw [ZA.out, ZB.out]; omega
      · have HX : Hid (cmpRpm a0.data.toList b0.data.toList = -1) := hc.out.symm.trans (rpm_ne' ka kb (by omega))
        go_wp2_with fail
        refine (SA.out _).mono ?_
        rintro e w1 ⟨⟨a1, rfl, ea⟩, rfl⟩
        go_wp2_with fail
        refine (SB.out _).mono ?_
        rintro e w1 ⟨⟨b1, rfl, eb⟩, rfl⟩
        have za : a1.size ≤ a.size := by rw [← size_len, ← size_len, ea]; exact strip_le _
        have zb : b1.size ≤ b.size := by rw [← size_len, ← size_len, eb]; exact strip_le _
        clear SA SB
        obtain ⟨pa, ax⟩ := rk0 (s := a1) (by rw [ea]; exact ka)
        have ia : (0 : Int) < (a1.size : Int) := by omega
        have ja : (1 : Int) ≤ (a1.size : Int) := by omega
        have na : ((a1.size : Int) == 0) = false := beq_eq_false_iff_ne.2 (by omega)
        have ma : ¬ a1.size = 0 := by omega
        have oa : ¬ (a1.size : Int) = 0 := by omega
        obtain rfl := rk1 (s := b1) (by rw [eb]; exact kb)
        clear ka kb ea eb hc
        go_wp2_with fail
        go_ret
        exact ⟨ret_int (by rw [HX.out]), hB.out⟩
      · have HX : Hid (cmpRpm a0.data.toList b0.data.toList = -1) := hc.out.symm.trans (rpm_ne' ka kb (by omega))
        go_wp2_with fail
        refine (SA.out _).mono ?_
        rintro e w1 ⟨⟨a1, rfl, ea⟩, rfl⟩
        go_wp2_with fail
        refine (SB.out _).mono ?_
        rintro e w1 ⟨⟨b1, rfl, eb⟩, rfl⟩
        have za : a1.size ≤ a.size := by rw [← size_len, ← size_len, ea]; exact strip_le _
        have zb : b1.size ≤ b.size := by rw [← size_len, ← size_len, eb]; exact strip_le _
        clear SA SB
        obtain ⟨pa, ax⟩ := rk0 (s := a1) (by rw [ea]; exact ka)
        have ia : (0 : Int) < (a1.size : Int) := by omega
        have ja : (1 : Int) ≤ (a1.size : Int) := by omega
        have na : ((a1.size : Int) == 0) = false := beq_eq_false_iff_ne.2 (by omega)
        have ma : ¬ a1.size = 0 := by omega
        have oa : ¬ (a1.size : Int) = 0 := by omega
        obtain ⟨pb, bx, bc⟩ := rk2 (s := b1) (by rw [eb]; exact kb)
        have ib : (0 : Int) < (b1.size : Int) := by omega
        have jb : (1 : Int) ≤ (b1.size : Int) := by omega
        have nb : ((b1.size : Int) == 0) = false := beq_eq_false_iff_ne.2 (by omega)
        have mb : ¬ b1.size = 0 := by omega
        have ob : ¬ (b1.size : Int) = 0 := by omega
        clear ka kb ea eb hc
        go_wp2_with fail
        go_ret
        exact ⟨ret_int (by rw [HX.out]), hB.out⟩
      · have HX : Hid (cmpRpm a0.data.toList b0.data.toList = -1) := hc.out.symm.trans (rpm_ne' ka kb (by omega))
        go_wp2_with fail
        refine (SA.out _).mono ?_
        rintro e w1 ⟨⟨a1, rfl, ea⟩, rfl⟩
        go_wp2_with fail
        refine (SB.out _).mono ?_
        rintro e w1 ⟨⟨b1, rfl, eb⟩, rfl⟩
        have za : a1.size ≤ a.size := by rw [← size_len, ← size_len, ea]; exact strip_le _
        have zb : b1.size ≤ b.size := by rw [← size_len, ← size_len, eb]; exact strip_le _
        clear SA SB
        obtain ⟨pa, ax⟩ := rk0 (s := a1) (by rw [ea]; exact ka)
        have ia : (0 : Int) < (a1.size : Int) := by omega
        have ja : (1 : Int) ≤ (a1.size : Int) := by omega
        have na : ((a1.size : Int) == 0) = false := beq_eq_false_iff_ne.2 (by omega)
        have ma : ¬ a1.size = 0 := by omega
        have oa : ¬ (a1.size : Int) = 0 := by omega
        obtain ⟨pb, bx, bc, bd, bl⟩ := rk3 eb kb
        have ib : (0 : Int) < (b1.size : Int) := by omega
        have jb : (1 : Int) ≤ (b1.size : Int) := by omega
        have nb : ((b1.size : Int) == 0) = false := beq_eq_false_iff_ne.2 (by omega)
        have mb : ¬ b1.size = 0 := by omega
        have ob : ¬ (b1.size : Int) = 0 := by omega
        clear ka kb ea eb hc
        go_wp2_with fail
        go_ret
        exact ⟨ret_int (by rw [HX.out]), hB.out⟩
      · have HX : Hid (cmpRpm a0.data.toList b0.data.toList = -1) := hc.out.symm.trans (rpm_ne' ka kb (by omega))
        go_wp2_with fail
        refine (SA.out _).mono ?_
        rintro e w1 ⟨⟨a1, rfl, ea⟩, rfl⟩
        go_wp2_with fail
        refine (SB.out _).mono ?_
        rintro e w1 ⟨⟨b1, rfl, eb⟩, rfl⟩
        have za : a1.size ≤ a.size := by rw [← size_len, ← size_len, ea]; exact strip_le _
        have zb : b1.size ≤ b.size := by rw [← size_len, ← size_len, eb]; exact strip_le _
        clear SA SB
        obtain ⟨pa, ax⟩ := rk0 (s := a1) (by rw [ea]; exact ka)
        have ia : (0 : Int) < (a1.size : Int) := by omega
        have ja : (1 : Int) ≤ (a1.size : Int) := by omega
        have na : ((a1.size : Int) == 0) = false := beq_eq_false_iff_ne.2 (by omega)
        have ma : ¬ a1.size = 0 := by omega
        have oa : ¬ (a1.size : Int) = 0 := by omega
        obtain ⟨pb, bx, bc, bd⟩ := rk4 eb kb
        have ib : (0 : Int) < (b1.size : Int) := by omega
        have jb : (1 : Int) ≤ (b1.size : Int) := by omega
        have nb : ((b1.size : Int) == 0) = false := beq_eq_false_iff_ne.2 (by omega)
        have mb : ¬ b1.size = 0 := by omega
        have ob : ¬ (b1.size : Int) = 0 := by omega
        clear ka kb ea eb hc
        go_wp2_with fail
        go_ret
        exact ⟨ret_int (by rw [HX.out]), hB.out⟩
    · rcases rank_kinds b.data.toList with kb | kb | kb | kb | kb
      · have HX : Hid (cmpRpm a0.data.toList b0.data.toList = 1) := hc.out.symm.trans (rpm_ne' ka kb (by omega))
        go_wp2_with fail
        refine (SA.out _).mono ?_
        rintro e w1 ⟨⟨a1, rfl, ea⟩, rfl⟩
        go_wp2_with fail
        refine (SB.out _).mono ?_
        rintro e w1 ⟨⟨b1, rfl, eb⟩, rfl⟩
        have za : a1.size ≤ a.size := by rw [← size_len, ← size_len, ea]; exact strip_le _
        have zb : b1.size ≤ b.size := by rw [← size_len, ← size_len, eb]; exact strip_le _
        clear SA SB
        obtain rfl := rk1 (s := a1) (by rw [ea]; exact ka)
        obtain ⟨pb, bx⟩ := rk0 (s := b1) (by rw [eb]; exact kb)
        have ib : (0 : Int) < (b1.size : Int) := by omega
        have jb : (1 : Int) ≤ (b1.size : Int) := by omega
        have nb : ((b1.size : Int) == 0) = false := beq_eq_false_iff_ne.2 (by omega)
        have mb : ¬ b1.size = 0 := by omega
        have ob : ¬ (b1.size : Int) = 0 := by omega
        clear ka kb ea eb hc
        go_wp2_with fail
        go_ret
        exact ⟨ret_int (by rw [HX.out]), hB.out⟩
      · have HX : Hid (cmpRpm a0.data.toList b0.data.toList = 0) := hc.out.symm.trans (rpm_end ka kb)
        go_wp2_with fail
        refine (SA.out _).mono ?_
        rintro e w1 ⟨⟨a1, rfl, ea⟩, rfl⟩
        go_wp2_with fail
        refine (SB.out _).mono ?_
        rintro e w1 ⟨⟨b1, rfl, eb⟩, rfl⟩
        have za : a1.size ≤ a.size := by rw [← size_len, ← size_len, ea]; exact strip_le _
        have zb : b1.size ≤ b.size := by rw [← size_len, ← size_len, eb]; exact strip_le _
        clear SA SB
        obtain rfl := rk1 (s := a1) (by rw [ea]; exact ka)
        obtain rfl := rk1 (s := b1) (by rw [eb]; exact kb)
        clear ka kb ea eb hc
        go_wp2_with fail
        refine (refSign_any _ _).mono ?_
        rintro e w1 ⟨rfl, rfl⟩
        go_wp2_with fail
        go_ret
        exact ⟨ret_int (by rw [HX.out]; rfl), hB.out⟩
      · have HX : Hid (cmpRpm a0.data.toList b0.data.toList = -1) := hc.out.symm.trans (rpm_ne' ka kb (by omega))
        go_wp2_with fail
        refine (SA.out _).mono ?_
        rintro e w1 ⟨⟨a1, rfl, ea⟩, rfl⟩
        go_wp2_with fail
        refine (SB.out _).mono ?_
        rintro e w1 ⟨⟨b1, rfl, eb⟩, rfl⟩
        have za : a1.size ≤ a.size := by rw [← size_len, ← size_len, ea]; exact strip_le _
        have zb : b1.size ≤ b.size := by rw [← size_len, ← size_len, eb]; exact strip_le _
        clear SA SB
        obtain rfl := rk1 (s := a1) (by rw [ea]; exact ka)
        obtain ⟨pb, bx, bc⟩ := rk2 (s := b1) (by rw [eb]; exact kb)
        have ib : (0 : Int) < (b1.size : Int) := by omega
        have jb : (1 : Int) ≤ (b1.size : Int) := by omega
        have nb : ((b1.size : Int) == 0) = false := beq_eq_false_iff_ne.2 (by omega)
        have mb : ¬ b1.size = 0 := by omega
        have ob : ¬ (b1.size : Int) = 0 := by omega
        clear ka kb ea eb hc
        go_wp2_with fail
        go_ret
        exact ⟨ret_int (by rw [HX.out]), hB.out⟩
      · have HX : Hid (cmpRpm a0.data.toList b0.data.toList = -1) := hc.out.symm.trans (rpm_ne' ka kb (by omega))
        go_wp2_with fail
        refine (SA.out _).mono ?_
        rintro e w1 ⟨⟨a1, rfl, ea⟩, rfl⟩
        go_wp2_with fail
        refine (SB.out _).mono ?_
        rintro e w1 ⟨⟨b1, rfl, eb⟩, rfl⟩
        have za : a1.size ≤ a.size := by rw [← size_len, ← size_len, ea]; exact strip_le _
        have zb : b1.size ≤ b.size := by rw [← size_len, ← size_len, eb]; exact strip_le _
        clear SA SB
        obtain rfl := rk1 (s := a1) (by rw [ea]; exact ka)
        obtain ⟨pb, bx, bc, bd, bl⟩ := rk3 eb kb
        have ib : (0 : Int) < (b1.size : Int) := by omega
        have jb : (1 : Int) ≤ (b1.size : Int) := by omega
        have nb : ((b1.size : Int) == 0) = false := beq_eq_false_iff_ne.2 (by omega)
        have mb : ¬ b1.size = 0 := by omega
        have ob : ¬ (b1.size : Int) = 0 := by omega
        clear ka kb ea eb hc
        go_wp2_with fail
        refine (refSign_any _ _).mono ?_
        rintro e w1 ⟨rfl, rfl⟩
        go_wp2_with fail
        go_ret
        exact ⟨ret_int (by rw [HX.out]; unfold cmpI; (repeat' split) <;> omega), hB.out⟩
      · have HX : Hid (cmpRpm a0.data.toList b0.data.toList = -1) := hc.out.symm.trans (rpm_ne' ka kb (by omega))
        go_wp2_with fail
        refine (SA.out _).mono ?_
        rintro e w1 ⟨⟨a1, rfl, ea⟩, rfl⟩
        go_wp2_with fail
        refine (SB.out _).mono ?_
        rintro e w1 ⟨⟨b1, rfl, eb⟩, rfl⟩
        have za : a1.size ≤ a.size := by rw [← size_len, ← size_len, ea]; exact strip_le _
        have zb : b1.size ≤ b.size := by rw [← size_len, ← size_len, eb]; exact strip_le _
        clear SA SB
        obtain rfl := rk1 (s := a1) (by rw [ea]; exact ka)
        obtain ⟨pb, bx, bc, bd⟩ := rk4 eb kb
        have ib : (0 : Int) < (b1.size : Int) := by omega
        have jb : (1 : Int) ≤ (b1.size : Int) := by omega
        have nb : ((b1.size : Int) == 0) = false := beq_eq_false_iff_ne.2 (by omega)
        have mb : ¬ b1.size = 0 := by omega
        have ob : ¬ (b1.size : Int) = 0 := by omega
        clear ka kb ea eb hc
        go_wp2_with fail
        refine (refSign_any _ _).mono ?_
        rintro e w1 ⟨rfl, rfl⟩
        go_wp2_with fail
        go_ret
        exact ⟨ret_int (by rw [HX.out]; unfold cmpI; (repeat' split) <;> omega), hB.out⟩
    · rcases rank_kinds b.data.toList with kb | kb | kb | kb | kb
      · have HX : Hid (cmpRpm a0.data.toList b0.data.toList = 1) := hc.out.symm.trans (rpm_ne' ka kb (by omega))
        go_wp2_with fail
        refine (SA.out _).mono ?_
        rintro e w1 ⟨⟨a1, rfl, ea⟩, rfl⟩
        go_wp2_with fail
        refine (SB.out _).mono ?_
        rintro e w1 ⟨⟨b1, rfl, eb⟩, rfl⟩
        have za : a1.size ≤ a.size := by rw [← size_len, ← size_len, ea]; exact strip_le _
        have zb : b1.size ≤ b.size := by rw [← size_len, ← size_len, eb]; exact strip_le _
        clear SA SB
        obtain ⟨pa, ax, ac⟩ := rk2 (s := a1) (by rw [ea]; exact ka)
        have ia : (0 : Int) < (a1.size : Int) := by omega
        have ja : (1 : Int) ≤ (a1.size : Int) := by omega
        have na : ((a1.size : Int) == 0) = false := beq_eq_false_iff_ne.2 (by omega)
        have ma : ¬ a1.size = 0 := by omega
        have oa : ¬ (a1.size : Int) = 0 := by omega
        obtain ⟨pb, bx⟩ := rk0 (s := b1) (by rw [eb]; exact kb)
        have ib : (0 : Int) < (b1.size : Int) := by omega
        have jb : (1 : Int) ≤ (b1.size : Int) := by omega
        have nb : ((b1.size : Int) == 0) = false := beq_eq_false_iff_ne.2 (by omega)
        have mb : ¬ b1.size = 0 := by omega
        have ob : ¬ (b1.size : Int) = 0 := by omega
        clear ka kb ea eb hc
        go_wp2_with fail
        go_ret
        exact ⟨ret_int (by rw [HX.out]), hB.out⟩
      · have HX : Hid (cmpRpm a0.data.toList b0.data.toList = 1) := hc.out.symm.trans (rpm_ne' ka kb (by omega))
        go_wp2_with fail
        refine (SA.out _).mono ?_
        rintro e w1 ⟨⟨a1, rfl, ea⟩, rfl⟩
        go_wp2_with fail
        refine (SB.out _).mono ?_
        rintro e w1 ⟨⟨b1, rfl, eb⟩, rfl⟩
        have za : a1.size ≤ a.size := by rw [← size_len, ← size_len, ea]; exact strip_le _
        have zb : b1.size ≤ b.size := by rw [← size_len, ← size_len, eb]; exact strip_le _
        clear SA SB
        obtain ⟨pa, ax, ac⟩ := rk2 (s := a1) (by rw [ea]; exact ka)
        have ia : (0 : Int) < (a1.size : Int) := by omega
        have ja : (1 : Int) ≤ (a1.size : Int) := by omega
        have na : ((a1.size : Int) == 0) = false := beq_eq_false_iff_ne.2 (by omega)
        have ma : ¬ a1.size = 0 := by omega
        have oa : ¬ (a1.size : Int) = 0 := by omega
        obtain rfl := rk1 (s := b1) (by rw [eb]; exact kb)
        clear ka kb ea eb hc
        go_wp2_with fail
        go_ret
        exact ⟨ret_int (by rw [HX.out]), hB.out⟩
      · obtain ⟨e1, e2, e3⟩ := rpm_tail (ka.trans kb.symm) (.inr kb)
        have HT0 := Lib.hid (hc.out.symm.trans e1)
        clear e1 e2 e3
        go_wp2_with fail
        refine (SA.out _).mono ?_
        rintro e w1 ⟨⟨a1, rfl, ea⟩, rfl⟩
        go_wp2_with fail
        refine (SB.out _).mono ?_
        rintro e w1 ⟨⟨b1, rfl, eb⟩, rfl⟩
        have za : a1.size ≤ a.size := by rw [← size_len, ← size_len, ea]; exact strip_le _
        have zb : b1.size ≤ b.size := by rw [← size_len, ← size_len, eb]; exact strip_le _
        clear SA SB
        obtain ⟨pa, ax, ac⟩ := rk2 (s := a1) (by rw [ea]; exact ka)
        have ia : (0 : Int) < (a1.size : Int) := by omega
        have ja : (1 : Int) ≤ (a1.size : Int) := by omega
        have na : ((a1.size : Int) == 0) = false := beq_eq_false_iff_ne.2 (by omega)
        have ma : ¬ a1.size = 0 := by omega
        have oa : ¬ (a1.size : Int) = 0 := by omega
        obtain ⟨pb, bx, bc⟩ := rk2 (s := b1) (by rw [eb]; exact kb)
        have ib : (0 : Int) < (b1.size : Int) := by omega
        have jb : (1 : Int) ≤ (b1.size : Int) := by omega
        have nb : ((b1.size : Int) == 0) = false := beq_eq_false_iff_ne.2 (by omega)
        have mb : ¬ b1.size = 0 := by omega
        have ob : ¬ (b1.size : Int) = 0 := by omega
        have LA : Hid ((a1.extract 1 a1.size).data.toList = (strip a.data.toList).tail) := by show _ = _; rw [bl_tail, ea]
        have LB : Hid ((b1.extract 1 b1.size).data.toList = (strip b.data.toList).tail) := by show _ = _; rw [bl_tail, eb]
        have ZA := Lib.hid (show (a1.extract 1 a1.size).size = a1.size - 1 by simp)
        have ZB := Lib.hid (show (b1.extract 1 b1.size).size = b1.size - 1 by simp)
        clear ka kb ea eb hc
        go_wp2_with fail
        go_roundw
        case rel => exact ⟨_, _, rfl, rfl, by rw [ZA.out]; omega, by rw [ZB.out]; omega, show cmpRpm _ _ = _ by rw [LA.out, LB.out]; exact HT0.out.symm, hB.out⟩
        case measure => show (a1.extract 1 a1.size).size + (b1.extract 1 b1.size).size < a.size + b.size; rw [ZA.out, ZB.out]; omega
      · have HX : Hid (cmpRpm a0.data.toList b0.data.toList = -1) := hc.out.symm.trans (rpm_ne' ka kb (by omega))
        go_wp2_with fail
        refine (SA.out _).mono ?_
        rintro e w1 ⟨⟨a1, rfl, ea⟩, rfl⟩
        go_wp2_with fail
        refine (SB.out _).mono ?_
        rintro e w1 ⟨⟨b1, rfl, eb⟩, rfl⟩
        have za : a1.size ≤ a.size := by rw [← size_len, ← size_len, ea]; exact strip_le _
        have zb : b1.size ≤ b.size := by rw [← size_len, ← size_len, eb]; exact strip_le _
        clear SA SB
        obtain ⟨pa, ax, ac⟩ := rk2 (s := a1) (by rw [ea]; exact ka)
        have ia : (0 : Int) < (a1.size : Int) := by omega
        have ja : (1 : Int) ≤ (a1.size : Int) := by omega
        have na : ((a1.size : Int) == 0) = false := beq_eq_false_iff_ne.2 (by omega)
        have ma : ¬ a1.size = 0 := by omega
        have oa : ¬ (a1.size : Int) = 0 := by omega
        obtain ⟨pb, bx, bc, bd, bl⟩ := rk3 eb kb
        have ib : (0 : Int) < (b1.size : Int) := by omega
        have jb : (1 : Int) ≤ (b1.size : Int) := by omega
        have nb : ((b1.size : Int) == 0) = false := beq_eq_false_iff_ne.2 (by omega)
        have mb : ¬ b1.size = 0 := by omega
        have ob : ¬ (b1.size : Int) = 0 := by omega
        clear ka kb ea eb hc
        go_wp2_with fail
        go_ret
        exact ⟨ret_int (by rw [HX.out]), hB.out⟩
      · have HX : Hid (cmpRpm a0.data.toList b0.data.toList = -1) := hc.out.symm.trans (rpm_ne' ka kb (by omega))
        go_wp2_with fail
        refine (SA.out _).mono ?_
        rintro e w1 ⟨⟨a1, rfl, ea⟩, rfl⟩
        go_wp2_with fail
        refine (SB.out _).mono ?_
        rintro e w1 ⟨⟨b1, rfl, eb⟩, rfl⟩
        have za : a1.size ≤ a.size := by rw [← size_len, ← size_len, ea]; exact strip_le _
        have zb : b1.size ≤ b.size := by rw [← size_len, ← size_len, eb]; exact strip_le _
        clear SA SB
        obtain ⟨pa, ax, ac⟩ := rk2 (s := a1) (by rw [ea]; exact ka)
        have ia : (0 : Int) < (a1.size : Int) := by omega
        have ja : (1 : Int) ≤ (a1.size : Int) := by omega
        have na : ((a1.size : Int) == 0) = false := beq_eq_false_iff_ne.2 (by omega)
        have ma : ¬ a1.size = 0 := by omega
        have oa : ¬ (a1.size : Int) = 0 := by omega
        obtain ⟨pb, bx, bc, bd⟩ := rk4 eb kb
        have ib : (0 : Int) < (b1.size : Int) := by omega
        have jb : (1 : Int) ≤ (b1.size : Int) := by omega
        have nb : ((b1.size : Int) == 0) = false := beq_eq_false_iff_ne.2 (by omega)
        have mb : ¬ b1.size = 0 := by omega
        have ob : ¬ (b1.size : Int) = 0 := by omega
        clear ka kb ea eb hc
        go_wp2_with fail
        go_ret
        exact ⟨ret_int (by rw [HX.out]), hB.out⟩
    · rcases rank_kinds b.data.toList with kb | kb | kb | kb | kb
      · have HX : Hid (cmpRpm a0.data.toList b0.data.toList = 1) := hc.out.symm.trans (rpm_ne' ka kb (by omega))
        go_wp2_with fail
        refine (SA.out _).mono ?_
        rintro e w1 ⟨⟨a1, rfl, ea⟩, rfl⟩
        go_wp2_with fail
        refine (SB.out _).mono ?_
        rintro e w1 ⟨⟨b1, rfl, eb⟩, rfl⟩
        have za : a1.size ≤ a.size := by rw [← size_len, ← size_len, ea]; exact strip_le _
        have zb : b1.size ≤ b.size := by rw [← size_len, ← size_len, eb]; exact strip_le _
        clear SA SB
        obtain ⟨pa, ax, ac, ad, al⟩ := rk3 ea ka
        have ia : (0 : Int) < (a1.size : Int) := by omega
        have ja : (1 : Int) ≤ (a1.size : Int) := by omega
        have na : ((a1.size : Int) == 0) = false := beq_eq_false_iff_ne.2 (by omega)
        have ma : ¬ a1.size = 0 := by omega
        have oa : ¬ (a1.size : Int) = 0 := by omega
        obtain ⟨pb, bx⟩ := rk0 (s := b1) (by rw [eb]; exact kb)
        have ib : (0 : Int) < (b1.size : Int) := by omega
        have jb : (1 : Int) ≤ (b1.size : Int) := by omega
        have nb : ((b1.size : Int) == 0) = false := beq_eq_false_iff_ne.2 (by omega)
        have mb : ¬ b1.size = 0 := by omega
        have ob : ¬ (b1.size : Int) = 0 := by omega
        clear ka kb ea eb hc
        go_wp2_with fail
        go_ret
        exact ⟨ret_int (by rw [HX.out]), hB.out⟩
      · have HX : Hid (cmpRpm a0.data.toList b0.data.toList = 1) := hc.out.symm.trans (rpm_ne' ka kb (by omega))
        go_wp2_with fail
        refine (SA.out _).mono ?_
        rintro e w1 ⟨⟨a1, rfl, ea⟩, rfl⟩
        go_wp2_with fail
        refine (SB.out _).mono ?_
        rintro e w1 ⟨⟨b1, rfl, eb⟩, rfl⟩
        have za : a1.size ≤ a.size := by rw [← size_len, ← size_len, ea]; exact strip_le _
        have zb : b1.size ≤ b.size := by rw [← size_len, ← size_len, eb]; exact strip_le _
        clear SA SB
        obtain ⟨pa, ax, ac, ad, al⟩ := rk3 ea ka
        have ia : (0 : Int) < (a1.size : Int) := by omega
        have ja : (1 : Int) ≤ (a1.size : Int) := by omega
        have na : ((a1.size : Int) == 0) = false := beq_eq_false_iff_ne.2 (by omega)
        have ma : ¬ a1.size = 0 := by omega
        have oa : ¬ (a1.size : Int) = 0 := by omega
        obtain rfl := rk1 (s := b1) (by rw [eb]; exact kb)
        clear ka kb ea eb hc
        go_wp2_with fail
        refine (refSign_any _ _).mono ?_
        rintro e w1 ⟨rfl, rfl⟩
        go_wp2_with fail
        go_ret
        exact ⟨ret_int (by rw [HX.out]; unfold cmpI; (repeat' split) <;> omega), hB.out⟩
      · have HX : Hid (cmpRpm a0.data.toList b0.data.toList = 1) := hc.out.symm.trans (rpm_ne' ka kb (by omega))
        go_wp2_with fail
        refine (SA.out _).mono ?_
        rintro e w1 ⟨⟨a1, rfl, ea⟩, rfl⟩
        go_wp2_with fail
        refine (SB.out _).mono ?_
        rintro e w1 ⟨⟨b1, rfl, eb⟩, rfl⟩
        have za : a1.size ≤ a.size := by rw [← size_len, ← size_len, ea]; exact strip_le _
        have zb : b1.size ≤ b.size := by rw [← size_len, ← size_len, eb]; exact strip_le _
        clear SA SB
        obtain ⟨pa, ax, ac, ad, al⟩ := rk3 ea ka
        have ia : (0 : Int) < (a1.size : Int) := by omega
        have ja : (1 : Int) ≤ (a1.size : Int) := by omega
        have na : ((a1.size : Int) == 0) = false := beq_eq_false_iff_ne.2 (by omega)
        have ma : ¬ a1.size = 0 := by omega
        have oa : ¬ (a1.size : Int) = 0 := by omega
        obtain ⟨pb, bx, bc⟩ := rk2 (s := b1) (by rw [eb]; exact kb)
        have ib : (0 : Int) < (b1.size : Int) := by omega
        have jb : (1 : Int) ≤ (b1.size : Int) := by omega
        have nb : ((b1.size : Int) == 0) = false := beq_eq_false_iff_ne.2 (by omega)
        have mb : ¬ b1.size = 0 := by omega
        have ob : ¬ (b1.size : Int) = 0 := by omega
        clear ka kb ea eb hc
        go_wp2_with fail
        go_ret
        exact ⟨ret_int (by rw [HX.out]), hB.out⟩
      · go_wp2_with fail
        refine (SA.out _).mono ?_
        rintro e w1 ⟨⟨a1, rfl, ea⟩, rfl⟩
        go_wp2_with fail
        refine (SB.out _).mono ?_
        rintro e w1 ⟨⟨b1, rfl, eb⟩, rfl⟩
        have za : a1.size ≤ a.size := by rw [← size_len, ← size_len, ea]; exact strip_le _
        have zb : b1.size ≤ b.size := by rw [← size_len, ← size_len, eb]; exact strip_le _
        clear SA SB
        obtain ⟨pa, ax, ac, ad, al⟩ := rk3 ea ka
        have ia : (0 : Int) < (a1.size : Int) := by omega
        have ja : (1 : Int) ≤ (a1.size : Int) := by omega
        have na : ((a1.size : Int) == 0) = false := beq_eq_false_iff_ne.2 (by omega)
        have ma : ¬ a1.size = 0 := by omega
        have oa : ¬ (a1.size : Int) = 0 := by omega
        obtain ⟨pb, bx, bc, bd, bl⟩ := rk3 eb kb
        have ib : (0 : Int) < (b1.size : Int) := by omega
        have jb : (1 : Int) ≤ (b1.size : Int) := by omega
        have nb : ((b1.size : Int) == 0) = false := beq_eq_false_iff_ne.2 (by omega)
        have mb : ¬ b1.size = 0 := by omega
        have ob : ¬ (b1.size : Int) = 0 := by omega
        have HNE : Hid ((cmpL (letP a1.data.toList) (letP b1.data.toList)) ≠ 0 → cmpRpm a0.data.toList b0.data.toList = (cmpL (letP a1.data.toList) (letP b1.data.toList))) := by
          show _ → _
          rw [ea, eb]
          exact fun h => hc.out.symm.trans (rpm_let ka kb h)
        have HNX : Hid ((cmpL (letP a1.data.toList) (letP b1.data.toList)) = 0 → cmpRpm a0.data.toList b0.data.toList = cmpRpm (a1.data.toList.dropWhile isLt) (b1.data.toList.dropWhile isLt)) := by
          show _ → _
          rw [ea, eb]
          exact fun h => hc.out.symm.trans (rpm_let0 ka kb h)
        have HS : Hid ((a1.data.toList.dropWhile isLt).length < a.size ∧ (b1.data.toList.dropWhile isLt).length < b.size) := by
          show _ ∧ _
          rw [ea, eb, ← size_len a, ← size_len b]
          exact ⟨rpm_less3 ka, rpm_less3 kb⟩
        have CD := Lib.hid (refDigit_any a1[0])
        rw [ad] at CD
        have RA := Lib.hid (fun w => refRun_is a1 false (by unfold maxLen; omega) isLt rfl w)
        have RB := Lib.hid (fun w => refRun_is b1 false (by unfold maxLen; omega) isLt rfl w)
        have qa : (a1.data.toList.takeWhile isLt).length ≤ a1.size := by rw [← size_len]; exact while_le _
        have qb : (b1.data.toList.takeWhile isLt).length ≤ b1.size := by rw [← size_len]; exact while_le _
        have hm := run_yes (p := isLt) pb (by exact bl)
        have DA := Lib.hid (drop_of_while (p := isLt) a1.data.toList)
        have DB := Lib.hid (drop_of_while (p := isLt) b1.data.toList)
        have EA : Hid ((a1.extract 0 (a1.data.toList.takeWhile isLt).length).data.toList = letP a1.data.toList) := (bl_upto _ _).trans (take_of_while _).symm
        have EB : Hid ((b1.extract 0 (b1.data.toList.takeWhile isLt).length).data.toList = letP b1.data.toList) := (bl_upto _ _).trans (take_of_while _).symm
        have CT := Lib.hid (fun w => refText_any (a1.extract 0 (a1.data.toList.takeWhile isLt).length) (b1.extract 0 (b1.data.toList.takeWhile isLt).length) w)
        rw [EA.out, EB.out] at CT
        generalize cmpL (letP a1.data.toList) (letP b1.data.toList) = c at *
        generalize (a1.data.toList.takeWhile isLt).length = n at *
        generalize (b1.data.toList.takeWhile isLt).length = m at *
        have ra : (n : Int) ≤ (a1.size : Int) := by omega
        have rb : (m : Int) ≤ (b1.size : Int) := by omega
        have m1 : ¬ m = 0 := by omega
        have m2 : ¬ (m : Int) = 0 := by omega
        have m3 : ((m : Int) == 0) = false := beq_eq_false_iff_ne.2 m2
        clear EA EB hm ka kb ea eb hc
        by_cases h0 : c = 0
        · subst h0
          have HX := Lib.hid (HNX.out rfl)
          clear HNE HNX
          go_wp2_with fail
          refine (CD.out _).mono ?_
          rintro e w1 ⟨rfl, rfl⟩
          go_wp2_with fail
          refine (RA.out _).mono ?_
          rintro e w1 ⟨rfl, rfl⟩
          go_wp2_with fail
          refine (RB.out _).mono ?_
          rintro e w1 ⟨rfl, rfl⟩
          go_wp2_with fail
          go_quiet ((go_at_call 60; exact (CT.out _).mono fun _ _ h => ⟨h.1, _, h.2.symm⟩))
          go_wp2_with fail
          have XA : Hid ((a1.extract n a1.size).data.toList = a1.data.toList.dropWhile isLt) := (bl_from _ _).trans DA.out.symm
          have XB : Hid ((b1.extract m b1.size).data.toList = b1.data.toList.dropWhile isLt) := (bl_from _ _).trans DB.out.symm
          have HS2 : Hid ((a1.extract n a1.size).size < a.size ∧ (b1.extract m b1.size).size < b.size) := by
            have h := HS.out
            rw [← XA.out, ← XB.out, size_len, size_len] at h
            exact h
          rw [← XA.out, ← XB.out] at HX
          clear XA XB DA DB HS
          generalize a1.extract n a1.size = a' at *
          generalize b1.extract m b1.size = b' at *
          have s1 := HS2.out.1
          have s2 := HS2.out.2
          go_roundw
          case rel => exact ⟨a', b', rfl, rfl, by omega, by omega, HX.out.symm, below_drewN' hB.out _⟩
          case measure => show a'.size + b'.size < a.size + b.size; omega
        · have t1 : (c == 0) = false := by simpa using h0
          have t2 : (c != 0) = true := by simpa using h0
          have HX := Lib.hid (HNE.out h0)
          clear HNE HNX h0 DA DB HS
          go_wp2_with fail
          refine (CD.out _).mono ?_
          rintro e w1 ⟨rfl, rfl⟩
          go_wp2_with fail
          refine (RA.out _).mono ?_
          rintro e w1 ⟨rfl, rfl⟩
          go_wp2_with fail
          refine (RB.out _).mono ?_
          rintro e w1 ⟨rfl, rfl⟩
          go_wp2_with fail
          go_quiet ((go_at_call 60; exact (CT.out _).mono fun _ _ h => ⟨h.1, _, h.2.symm⟩))
          go_wp2_with fail
          go_ret
          exact ⟨ret_int (by rw [HX.out]), below_drewN' hB.out _⟩
      · have HX : Hid (cmpRpm a0.data.toList b0.data.toList = -1) := hc.out.symm.trans (rpm_ne' ka kb (by omega))
        go_wp2_with fail
        refine (SA.out _).mono ?_
        rintro e w1 ⟨⟨a1, rfl, ea⟩, rfl⟩
        go_wp2_with fail
        refine (SB.out _).mono ?_
        rintro e w1 ⟨⟨b1, rfl, eb⟩, rfl⟩
        have za : a1.size ≤ a.size := by rw [← size_len, ← size_len, ea]; exact strip_le _
        have zb : b1.size ≤ b.size := by rw [← size_len, ← size_len, eb]; exact strip_le _
        clear SA SB
        obtain ⟨pa, ax, ac, ad, al⟩ := rk3 ea ka
        have ia : (0 : Int) < (a1.size : Int) := by omega
        have ja : (1 : Int) ≤ (a1.size : Int) := by omega
        have na : ((a1.size : Int) == 0) = false := beq_eq_false_iff_ne.2 (by omega)
        have ma : ¬ a1.size = 0 := by omega
        have oa : ¬ (a1.size : Int) = 0 := by omega
        obtain ⟨pb, bx, bc, bd⟩ := rk4 eb kb
        have ib : (0 : Int) < (b1.size : Int) := by omega
        have jb : (1 : Int) ≤ (b1.size : Int) := by omega
        have nb : ((b1.size : Int) == 0) = false := beq_eq_false_iff_ne.2 (by omega)
        have mb : ¬ b1.size = 0 := by omega
        have ob : ¬ (b1.size : Int) = 0 := by omega
        clear ka kb ea eb hc
        have CD := Lib.hid (refDigit_any a1[0])
        rw [ad] at CD
        have RA := Lib.hid (fun w => refRun_any a1 false (by unfold maxLen; omega) w)
        have RB := Lib.hid (fun w => refRun_zero b1 false (by unfold maxLen; omega) (run_no pb (by exact dg_lt bd)) w)
        generalize (a1.data.toList.takeWhile (runP false)).length = n at *
        go_wp2_with fail
        refine (CD.out _).mono ?_
        rintro e w1 ⟨rfl, rfl⟩
        go_wp2_with fail
        refine (RA.out _).mono ?_
        rintro e w1 ⟨rfl, rfl⟩
        go_wp2_with fail
        refine (RB.out _).mono ?_
        rintro e w1 ⟨rfl, rfl⟩
        go_wp2_with fail
        go_ret
        exact ⟨ret_int (by rw [HX.out]), hB.out⟩
    · rcases rank_kinds b.data.toList with kb | kb | kb | kb | kb
      · have HX : Hid (cmpRpm a0.data.toList b0.data.toList = 1) := hc.out.symm.trans (rpm_ne' ka kb (by omega))
        go_wp2_with fail
        refine (SA.out _).mono ?_
        rintro e w1 ⟨⟨a1, rfl, ea⟩, rfl⟩
        go_wp2_with fail
        refine (SB.out _).mono ?_
        rintro e w1 ⟨⟨b1, rfl, eb⟩, rfl⟩
        have za : a1.size ≤ a.size := by rw [← size_len, ← size_len, ea]; exact strip_le _
        have zb : b1.size ≤ b.size := by rw [← size_len, ← size_len, eb]; exact strip_le _
        clear SA SB
        obtain ⟨pa, ax, ac, ad⟩ := rk4 ea ka
        have ia : (0 : Int) < (a1.size : Int) := by omega
        have ja : (1 : Int) ≤ (a1.size : Int) := by omega
        have na : ((a1.size : Int) == 0) = false := beq_eq_false_iff_ne.2 (by omega)
        have ma : ¬ a1.size = 0 := by omega
        have oa : ¬ (a1.size : Int) = 0 := by omega
        obtain ⟨pb, bx⟩ := rk0 (s := b1) (by rw [eb]; exact kb)
        have ib : (0 : Int) < (b1.size : Int) := by omega
        have jb : (1 : Int) ≤ (b1.size : Int) := by omega
        have nb : ((b1.size : Int) == 0) = false := beq_eq_false_iff_ne.2 (by omega)
        have mb : ¬ b1.size = 0 := by omega
        have ob : ¬ (b1.size : Int) = 0 := by omega
        clear ka kb ea eb hc
        go_wp2_with fail
        go_ret
        exact ⟨ret_int (by rw [HX.out]), hB.out⟩
      · have HX : Hid (cmpRpm a0.data.toList b0.data.toList = 1) := hc.out.symm.trans (rpm_ne' ka kb (by omega))
        go_wp2_with fail
        refine (SA.out _).mono ?_
        rintro e w1 ⟨⟨a1, rfl, ea⟩, rfl⟩
        go_wp2_with fail
        refine (SB.out _).mono ?_
        rintro e w1 ⟨⟨b1, rfl, eb⟩, rfl⟩
        have za : a1.size ≤ a.size := by rw [← size_len, ← size_len, ea]; exact strip_le _
        have zb : b1.size ≤ b.size := by rw [← size_len, ← size_len, eb]; exact strip_le _
        clear SA SB
        obtain ⟨pa, ax, ac, ad⟩ := rk4 ea ka
        have ia : (0 : Int) < (a1.size : Int) := by omega
        have ja : (1 : Int) ≤ (a1.size : Int) := by omega
        have na : ((a1.size : Int) == 0) = false := beq_eq_false_iff_ne.2 (by omega)
        have ma : ¬ a1.size = 0 := by omega
        have oa : ¬ (a1.size : Int) = 0 := by omega
        obtain rfl := rk1 (s := b1) (by rw [eb]; exact kb)
        clear ka kb ea eb hc
        go_wp2_with fail
        refine (refSign_any _ _).mono ?_
        rintro e w1 ⟨rfl, rfl⟩
        go_wp2_with fail
        go_ret
        exact ⟨ret_int (by rw [HX.out]; unfold cmpI; (repeat' split) <;> omega), hB.out⟩
      · have HX : Hid (cmpRpm a0.data.toList b0.data.toList = 1) := hc.out.symm.trans (rpm_ne' ka kb (by omega))
        go_wp2_with fail
        refine (SA.out _).mono ?_
        rintro e w1 ⟨⟨a1, rfl, ea⟩, rfl⟩
        go_wp2_with fail
        refine (SB.out _).mono ?_
        rintro e w1 ⟨⟨b1, rfl, eb⟩, rfl⟩
        have za : a1.size ≤ a.size := by rw [← size_len, ← size_len, ea]; exact strip_le _
        have zb : b1.size ≤ b.size := by rw [← size_len, ← size_len, eb]; exact strip_le _
        clear SA SB
        obtain ⟨pa, ax, ac, ad⟩ := rk4 ea ka
        have ia : (0 : Int) < (a1.size : Int) := by omega
        have ja : (1 : Int) ≤ (a1.size : Int) := by omega
        have na : ((a1.size : Int) == 0) = false := beq_eq_false_iff_ne.2 (by omega)
        have ma : ¬ a1.size = 0 := by omega
        have oa : ¬ (a1.size : Int) = 0 := by omega
        obtain ⟨pb, bx, bc⟩ := rk2 (s := b1) (by rw [eb]; exact kb)
        have ib : (0 : Int) < (b1.size : Int) := by omega
        have jb : (1 : Int) ≤ (b1.size : Int) := by omega
        have nb : ((b1.size : Int) == 0) = false := beq_eq_false_iff_ne.2 (by omega)
        have mb : ¬ b1.size = 0 := by omega
        have ob : ¬ (b1.size : Int) = 0 := by omega
        clear ka kb ea eb hc
        go_wp2_with fail
        go_ret
        exact ⟨ret_int (by rw [HX.out]), hB.out⟩
      · have HX : Hid (cmpRpm a0.data.toList b0.data.toList = 1) := hc.out.symm.trans (rpm_ne' ka kb (by omega))
        go_wp2_with fail
        refine (SA.out _).mono ?_
        rintro e w1 ⟨⟨a1, rfl, ea⟩, rfl⟩
        go_wp2_with fail
        refine (SB.out _).mono ?_
        rintro e w1 ⟨⟨b1, rfl, eb⟩, rfl⟩
        have za : a1.size ≤ a.size := by rw [← size_len, ← size_len, ea]; exact strip_le _
        have zb : b1.size ≤ b.size := by rw [← size_len, ← size_len, eb]; exact strip_le _
        clear SA SB
        obtain ⟨pa, ax, ac, ad⟩ := rk4 ea ka
        have ia : (0 : Int) < (a1.size : Int) := by omega
        have ja : (1 : Int) ≤ (a1.size : Int) := by omega
        have na : ((a1.size : Int) == 0) = false := beq_eq_false_iff_ne.2 (by omega)
        have ma : ¬ a1.size = 0 := by omega
        have oa : ¬ (a1.size : Int) = 0 := by omega
        obtain ⟨pb, bx, bc, bd, bl⟩ := rk3 eb kb
        have ib : (0 : Int) < (b1.size : Int) := by omega
        have jb : (1 : Int) ≤ (b1.size : Int) := by omega
        have nb : ((b1.size : Int) == 0) = false := beq_eq_false_iff_ne.2 (by omega)
        have mb : ¬ b1.size = 0 := by omega
        have ob : ¬ (b1.size : Int) = 0 := by omega
        clear ka kb ea eb hc
        have CD := Lib.hid (refDigit_any a1[0])
        rw [ad] at CD
        have RA := Lib.hid (fun w => refRun_any a1 true (by unfold maxLen; omega) w)
        have RB := Lib.hid (fun w => refRun_zero b1 true (by unfold maxLen; omega) (run_no pb (by exact bd)) w)
        generalize (a1.data.toList.takeWhile (runP true)).length = n at *
        go_wp2_with fail
        refine (CD.out _).mono ?_
        rintro e w1 ⟨rfl, rfl⟩
        go_wp2_with fail
        refine (RA.out _).mono ?_
        rintro e w1 ⟨rfl, rfl⟩
        go_wp2_with fail
        refine (RB.out _).mono ?_
        rintro e w1 ⟨rfl, rfl⟩
        go_wp2_with fail
        go_ret
        exact ⟨ret_int (by rw [HX.out]), hB.out⟩
      · go_wp2_with fail
        refine (SA.out _).mono ?_
        rintro e w1 ⟨⟨a1, rfl, ea⟩, rfl⟩
        go_wp2_with fail
        refine (SB.out _).mono ?_
        rintro e w1 ⟨⟨b1, rfl, eb⟩, rfl⟩
        have za : a1.size ≤ a.size := by rw [← size_len, ← size_len, ea]; exact strip_le _
        have zb : b1.size ≤ b.size := by rw [← size_len, ← size_len, eb]; exact strip_le _
        clear SA SB
        obtain ⟨pa, ax, ac, ad⟩ := rk4 ea ka
        have ia : (0 : Int) < (a1.size : Int) := by omega
        have ja : (1 : Int) ≤ (a1.size : Int) := by omega
        have na : ((a1.size : Int) == 0) = false := beq_eq_false_iff_ne.2 (by omega)
        have ma : ¬ a1.size = 0 := by omega
        have oa : ¬ (a1.size : Int) = 0 := by omega
        obtain ⟨pb, bx, bc, bd⟩ := rk4 eb kb
        have ib : (0 : Int) < (b1.size : Int) := by omega
        have jb : (1 : Int) ≤ (b1.size : Int) := by omega
        have nb : ((b1.size : Int) == 0) = false := beq_eq_false_iff_ne.2 (by omega)
        have mb : ¬ b1.size = 0 := by omega
        have ob : ¬ (b1.size : Int) = 0 := by omega
        have HNE : Hid ((cmpNum (numP a1.data.toList) (numP b1.data.toList)) ≠ 0 → cmpRpm a0.data.toList b0.data.toList = (cmpNum (numP a1.data.toList) (numP b1.data.toList))) := by
          show _ → _
          rw [ea, eb]
          exact fun h => hc.out.symm.trans (rpm_num ka kb h)
        have HNX : Hid ((cmpNum (numP a1.data.toList) (numP b1.data.toList)) = 0 → cmpRpm a0.data.toList b0.data.toList = cmpRpm (a1.data.toList.dropWhile isDg) (b1.data.toList.dropWhile isDg)) := by
          show _ → _
          rw [ea, eb]
          exact fun h => hc.out.symm.trans (rpm_num0 ka kb h)
        have HS : Hid ((a1.data.toList.dropWhile isDg).length < a.size ∧ (b1.data.toList.dropWhile isDg).length < b.size) := by
          show _ ∧ _
          rw [ea, eb, ← size_len a, ← size_len b]
          exact ⟨rpm_less4 ka, rpm_less4 kb⟩
        have CD := Lib.hid (refDigit_any a1[0])
        rw [ad] at CD
        have RA := Lib.hid (fun w => refRun_is a1 true (by unfold maxLen; omega) isDg rfl w)
        have RB := Lib.hid (fun w => refRun_is b1 true (by unfold maxLen; omega) isDg rfl w)
        have qa : (a1.data.toList.takeWhile isDg).length ≤ a1.size := by rw [← size_len]; exact while_le _
        have qb : (b1.data.toList.takeWhile isDg).length ≤ b1.size := by rw [← size_len]; exact while_le _
        have hm := run_yes (p := isDg) pb (by exact bd)
        have DA := Lib.hid (drop_of_while (p := isDg) a1.data.toList)
        have DB := Lib.hid (drop_of_while (p := isDg) b1.data.toList)
        have EA : Hid ((a1.extract 0 (a1.data.toList.takeWhile isDg).length).data.toList = numP a1.data.toList) := (bl_upto _ _).trans (take_of_while _).symm
        have EB : Hid ((b1.extract 0 (b1.data.toList.takeWhile isDg).length).data.toList = numP b1.data.toList) := (bl_upto _ _).trans (take_of_while _).symm
        have CT := Lib.hid (fun w => refText_any (a1.extract 0 (a1.data.toList.takeWhile isDg).length) (b1.extract 0 (b1.data.toList.takeWhile isDg).length) w)
        rw [EA.out, EB.out] at CT
        have CN := Lib.hid (fun w => refNumber_any (a1.extract 0 (a1.data.toList.takeWhile isDg).length) (b1.extract 0 (b1.data.toList.takeWhile isDg).length) (by simp; unfold maxLen; omega) (by simp; unfold maxLen; omega) w)
        rw [EA.out, EB.out] at CN
        generalize cmpNum (numP a1.data.toList) (numP b1.data.toList) = c at *
        generalize cmpL (numP a1.data.toList) (numP b1.data.toList) = t at *
        generalize (a1.data.toList.takeWhile isDg).length = n at *
        generalize (b1.data.toList.takeWhile isDg).length = m at *
        have ra : (n : Int) ≤ (a1.size : Int) := by omega
        have rb : (m : Int) ≤ (b1.size : Int) := by omega
        have m1 : ¬ m = 0 := by omega
        have m2 : ¬ (m : Int) = 0 := by omega
        have m3 : ((m : Int) == 0) = false := beq_eq_false_iff_ne.2 m2
        clear EA EB hm ka kb ea eb hc
        by_cases h0 : c = 0
        · subst h0
          have HX := Lib.hid (HNX.out rfl)
          clear HNE HNX
          go_wp2_with fail
          refine (CD.out _).mono ?_
          rintro e w1 ⟨rfl, rfl⟩
          go_wp2_with fail
          refine (RA.out _).mono ?_
          rintro e w1 ⟨rfl, rfl⟩
          go_wp2_with fail
          refine (RB.out _).mono ?_
          rintro e w1 ⟨rfl, rfl⟩
          go_wp2_with fail
          go_quiet ((go_at_call 60; exact (CT.out _).mono fun _ _ h => ⟨h.1, _, h.2.symm⟩))
          go_wp2_with fail
          go_quiet ((go_at_call 46; exact (CN.out _).mono fun _ _ h => ⟨h.1, _, h.2.symm⟩))
          go_wp2_with fail
          have XA : Hid ((a1.extract n a1.size).data.toList = a1.data.toList.dropWhile isDg) := (bl_from _ _).trans DA.out.symm
          have XB : Hid ((b1.extract m b1.size).data.toList = b1.data.toList.dropWhile isDg) := (bl_from _ _).trans DB.out.symm
          have HS2 : Hid ((a1.extract n a1.size).size < a.size ∧ (b1.extract m b1.size).size < b.size) := by
            have h := HS.out
            rw [← XA.out, ← XB.out, size_len, size_len] at h
            exact h
          rw [← XA.out, ← XB.out] at HX
          clear XA XB DA DB HS
          generalize a1.extract n a1.size = a' at *
          generalize b1.extract m b1.size = b' at *
          have s1 := HS2.out.1
          have s2 := HS2.out.2
          go_roundw
          case rel => exact ⟨a', b', rfl, rfl, by omega, by omega, HX.out.symm, below_drewN' hB.out _⟩
          case measure => show a'.size + b'.size < a.size + b.size; omega
        · have t1 : (c == 0) = false := by simpa using h0
          have t2 : (c != 0) = true := by simpa using h0
          have HX := Lib.hid (HNE.out h0)
          clear HNE HNX h0 DA DB HS
          go_wp2_with fail
          refine (CD.out _).mono ?_
          rintro e w1 ⟨rfl, rfl⟩
          go_wp2_with fail
          refine (RA.out _).mono ?_
          rintro e w1 ⟨rfl, rfl⟩
          go_wp2_with fail
          refine (RB.out _).mono ?_
          rintro e w1 ⟨rfl, rfl⟩
          go_wp2_with fail
          go_quiet ((go_at_call 60; exact (CT.out _).mono fun _ _ h => ⟨h.1, _, h.2.symm⟩))
          go_wp2_with fail
          go_quiet ((go_at_call 46; exact (CN.out _).mono fun _ _ h => ⟨h.1, _, h.2.symm⟩))
          go_wp2_with fail
          go_ret
          exact ⟨ret_int (by rw [HX.out]), below_drewN' hB.out _⟩
end Go.Proofs.YtbfpljlgjpmmmaaDoor
