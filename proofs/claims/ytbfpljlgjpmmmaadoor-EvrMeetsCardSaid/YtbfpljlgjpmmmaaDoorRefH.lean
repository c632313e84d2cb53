/- The document's answer: Compare. -/
import Derived.Test.YtbfpljlgjpmmmaaDoorRefG
namespace Go.Proofs.YtbfpljlgjpmmmaaDoor
set_option linter.unusedSimpArgs false
set_option linter.unusedVariables false
open Go.RowKit

theorem refParts_any {kind : Int} (hk : kindB kind = true) (e1 v1 r1 e2 v2 r2 : ByteArray) (s1 : e1.size ≤ maxLen) (s2 : e2.size ≤ maxLen) (s3 : v1.size ≤ maxLen) (s4 : v2.size ≤ maxLen) (s5 : r1.size ≤ maxLen) (s6 : r2.size ≤ maxLen) (w0 : World) :
    Calls Tryd.prog 29 #[.int .i64 kind, .agg #[.string e1, .string v1, .string r1], .agg #[.string e2, .string v2, .string r2]] w0 fun e w => e = .returned (.tuple #[.int .i64 (thenC (cmpNum e1.data.toList e2.data.toList) (cmpTxt kind v1.data.toList v2.data.toList)), .int .i64 (cmpRel kind r1.data.toList r2.data.toList)]) ∧ Below w0.heap.size w0 w := by
  have h : kind = 1 ∨ kind = 2 := of_decide_eq_true hk
  rcases h with rfl | rfl
  · exact refParts_rpm e1 v1 r1 e2 v2 r2 s1 s2 s3 s4 s5 s6 w0
  · exact refParts_deb e1 v1 r1 e2 v2 r2 s1 s2 s3 s4 s5 s6 w0

set_option maxHeartbeats 4000000 in
set_option maxRecDepth 1000000 in
theorem refCompare_any (kind : Int) (a b : ByteArray) (ha : a.size ≤ maxLen) (hb : b.size ≤ maxLen) (w0 : World) : Calls Tryd.prog 15 #[.int .i64 kind, .string a, .string b] w0 fun e w' => e = .returned (.tuple #[.int .i64 (cmpO kind (parse a.data.toList) (parse b.data.toList)), .int .i64 (bothErr kind (parse a.data.toList) (parse b.data.toList))]) ∧ Below w0.heap.size w0 w' := by
  by_cases hz : bothErr kind (parse a.data.toList) (parse b.data.toList) = 0
  · obtain ⟨hk, p, q, hp, hq⟩ := both_zero hz
    have C := Lib.hid (fun w => refBoth_good kind a b ha hb hk hp hq w)
    have sp := parse_size hp
    have sq := parse_size hq
    rw [hp, hq] at hz ⊢
    rw [hz]
    obtain ⟨e1, he1⟩ : ∃ e, e = mkS p.e := ⟨_, rfl⟩
    obtain ⟨v1, hv1⟩ : ∃ e, e = mkS p.v := ⟨_, rfl⟩
    obtain ⟨r1, hr1⟩ : ∃ e, e = mkS p.r := ⟨_, rfl⟩
    obtain ⟨e2, he2⟩ : ∃ e, e = mkS q.e := ⟨_, rfl⟩
    obtain ⟨v2, hv2⟩ : ∃ e, e = mkS q.v := ⟨_, rfl⟩
    obtain ⟨r2, hr2⟩ : ∃ e, e = mkS q.r := ⟨_, rfl⟩
    rw [← he1, ← hv1, ← hr1, ← he2, ← hv2, ← hr2] at C
    have s1 : e1.size ≤ maxLen := by rw [he1, mkS_size]; unfold maxLen; omega
    have s2 : e2.size ≤ maxLen := by rw [he2, mkS_size]; unfold maxLen; omega
    have s3 : v1.size ≤ maxLen := by rw [hv1, mkS_size]; unfold maxLen; omega
    have s4 : v2.size ≤ maxLen := by rw [hv2, mkS_size]; unfold maxLen; omega
    have s5 : r1.size ≤ maxLen := by rw [hr1, mkS_size]; unfold maxLen; omega
    have s6 : r2.size ≤ maxLen := by rw [hr2, mkS_size]; unfold maxLen; omega
    have CP := Lib.hid (fun w => refParts_any hk e1 v1 r1 e2 v2 r2 s1 s2 s3 s4 s5 s6 w)
    have HXY : cmpO kind (some p) (some q) = thenC (thenC (cmpNum e1.data.toList e2.data.toList) (cmpTxt kind v1.data.toList v2.data.toList)) (cmpRel kind r1.data.toList r2.data.toList) := by
      show (if kindB kind = true then cmpEvr kind p q else 0) = _
      rw [if_pos hk, he1, he2, hv1, hv2, hr1, hr2]
      rfl
    have HXY := Lib.hid HXY
    generalize cmpO kind (some p) (some q) = z at *
    generalize thenC (cmpNum e1.data.toList e2.data.toList) (cmpTxt kind v1.data.toList v2.data.toList) = x at *
    generalize cmpRel kind r1.data.toList r2.data.toList = y at *
    clear hz hk hp hq sp sq he1 hv1 hr1 he2 hv2 hr2 s1 s2 s3 s4 s5 s6 ha hb
    by_cases h0 : x = 0
    · subst h0
      go_enter Tryd.func15, Tryd.ntmps15
      go_wp2_with fail
      refine (C.out _).mono ?_
      rintro e' w1 ⟨rfl, hb1⟩
      have HB := Lib.hid hb1
      have hz := hb1.size
      clear hb1 C
      go_wp2_with fail
      refine (CP.out _).mono ?_
      rintro e' w2 ⟨rfl, hb2⟩
      have HB2 : Hid (Below w0.heap.size w0 w2) := ((HB.out.alloc hz _).alloc (by simp; omega) _).trans (hb2.mono (by simp; omega))
      clear hb2
      go_wp2_with fail
      go_ret2
      exact ⟨by rw [HXY.out]; rfl, HB2.out⟩
    · have t1 : (x == 0) = false := by simpa using h0
      have t2 : (x != 0) = true := by simpa using h0
      have HC := Lib.hid (thenC_ne h0 y)
      clear h0
      go_enter Tryd.func15, Tryd.ntmps15
      go_wp2_with fail
      refine (C.out _).mono ?_
      rintro e' w1 ⟨rfl, hb1⟩
      have HB := Lib.hid hb1
      have hz := hb1.size
      clear hb1 C
      go_wp2_with fail
      refine (CP.out _).mono ?_
      rintro e' w2 ⟨rfl, hb2⟩
      have HB2 : Hid (Below w0.heap.size w0 w2) := ((HB.out.alloc hz _).alloc (by simp; omega) _).trans (hb2.mono (by simp; omega))
      clear hb2
      go_wp2_with fail
      go_ret2
      exact ⟨by rw [HXY.out, HC.out]; rfl, HB2.out⟩
  · have C := Lib.hid (fun w => refBoth_bad kind a b ha hb hz w)
    have HC := Lib.hid (cmpO_bad hz)
    unfold RBad at C
    generalize bothErr kind (parse a.data.toList) (parse b.data.toList) = x at *
    have t1 : (x == 0) = false := by simpa using hz
    have t2 : (x != 0) = true := by simpa using hz
    clear hz ha hb
    go_enter Tryd.func15, Tryd.ntmps15
    go_wp2_with fail
    refine (C.out _).mono ?_
    rintro e' w1 ⟨⟨e1, v1, r1, e2, v2, r2, rfl⟩, hb1⟩
    have HB := Lib.hid hb1
    have hz := hb1.size
    clear hb1 C
    go_wp2_with fail
    go_ret2
    refine ⟨by rw [HC.out]; rfl, ?_⟩
    exact (HB.out.alloc hz _).alloc (by simp; omega) _
end Go.Proofs.YtbfpljlgjpmmmaaDoor
