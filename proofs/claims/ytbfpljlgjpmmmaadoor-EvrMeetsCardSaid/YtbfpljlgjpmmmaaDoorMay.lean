/- Comparing texts and releases. -/
import Derived.Test.YtbfpljlgjpmmmaaDoorRpm
namespace Go.Proofs.YtbfpljlgjpmmmaaDoor
set_option linter.unusedSimpArgs false
set_option linter.unusedVariables false
open Go.RowKit

set_option maxRecDepth 100000 in
theorem texts_any (kind : Int) (a b : ByteArray) (ha : a.size ≤ maxLen) (hb : b.size ≤ maxLen) (w : World) :
    Calls Tryd.prog 44 #[.int .i64 kind, .string a, .string b] w fun e w' => e = .returned (.int .i64 (cmpTxt kind a.data.toList b.data.toList)) ∧ Below w.heap.size w w' := by
  by_cases h : kind = 1
  · subst h
    have C := Lib.hid (fun w => rpm_any a b ha hb w)
    unfold PostR at C
    go_enter Tryd.func44, Tryd.ntmps44
    go_wp2_with fail
    refine (C.out _).mono ?_
    rintro e w1 ⟨rfl, hb1⟩
    go_wp2_with fail
    go_ret
    exact ⟨rfl, hb1⟩
  · have t1 : (kind == 1) = false := by simpa using h
    have C := Lib.hid (fun w => deb_any a b ha hb w)
    have HC := Lib.hid (show cmpTxt kind a.data.toList b.data.toList = cmpDeb a.data.toList b.data.toList by unfold cmpTxt; rw [if_neg h])
    unfold PostD at C
    clear h
    go_enter Tryd.func44, Tryd.ntmps44
    go_wp2_with fail
    refine (C.out _).mono ?_
    rintro e w1 ⟨rfl, hb1⟩
    go_wp2_with fail
    go_ret
    rw [HC.out]
    exact ⟨rfl, hb1⟩

theorem someI_of (s : ByteArray) : someI s.data.toList = if s.size = 0 then 0 else 1 := by
  unfold someI
  by_cases h : s.size = 0
  · rw [if_pos h, if_pos (list_nil h)]
  · rw [if_neg h, if_neg (fun e => h (by rw [← size_len, e]; rfl))]

set_option maxHeartbeats 400000 in
set_option maxRecDepth 100000 in
theorem releases_any (kind : Int) (a b : ByteArray) (ha : a.size ≤ maxLen) (hb : b.size ≤ maxLen) (w : World) :
    Calls Tryd.prog 27 #[.int .i64 kind, .string a, .string b] w fun e w' => e = .returned (.int .i64 (cmpRel kind a.data.toList b.data.toList)) ∧ Below w.heap.size w w' := by
  have C := Lib.hid (fun w => texts_any kind a b ha hb w)
  by_cases h : kind = 1
  · subst h
    have HR : Hid (cmpRel 1 a.data.toList b.data.toList = thenC (cmpI (if a.size = 0 then 0 else 1) (if b.size = 0 then 0 else 1)) (cmpRpm a.data.toList b.data.toList)) := by
      show cmpRel 1 _ _ = _
      rw [← someI_of, ← someI_of]; rfl
    have HT : Hid (cmpTxt 1 a.data.toList b.data.toList = cmpRpm a.data.toList b.data.toList) := rfl
    by_cases z1 : a.size = 0
    · have HV : Hid (Lib.compareInt 0 (b.size : Int) = cmpRel 1 a.data.toList b.data.toList) := by
        show Lib.compareInt _ _ = _
        rw [HR.out, if_pos z1]
        by_cases z2 : b.size = 0
        · rw [if_pos z2, z2, list_nil z1, list_nil z2]
          rw [show cmpI 0 0 = 0 from rfl, thenC_zero, rpm_nil]; rfl
        · have : (0 : Int) < (b.size : Int) := by omega
          rw [if_neg z2, thenC_ne (by decide)]
          show cmpI 0 _ = cmpI 0 1
          unfold cmpI
          rw [if_pos this]; rfl
      have CI := Lib.hid (fun w => Tryd.cmp_Compare_int 0 (b.size : Int) w)
      generalize Lib.compareInt 0 (b.size : Int) = x at *
      obtain rfl := empty_of z1
      clear z1 HR HT C
      go_enter Tryd.func27, Tryd.ntmps27
      go_wp2_with fail
      refine (CI.out _).mono ?_
      rintro e w1 ⟨rfl, rfl⟩
      go_wp2_with fail
      go_ret
      exact ⟨by rw [HV.out]; rfl, Below.refl _ _⟩
    · by_cases z2 : b.size = 0
      · have HV : Hid (Lib.compareInt (a.size : Int) 0 = cmpRel 1 a.data.toList b.data.toList) := by
          have h1 : (0 : Int) < (a.size : Int) := by omega
          have h2 : ¬ (a.size : Int) < 0 := by omega
          show Lib.compareInt _ _ = _
          rw [HR.out, if_neg z1, if_pos z2, thenC_ne (by decide)]
          show cmpI _ 0 = cmpI 1 0
          unfold cmpI
          rw [if_neg h2, if_pos h1]; rfl
        have CI := Lib.hid (fun w => Tryd.cmp_Compare_int (a.size : Int) 0 w)
        generalize Lib.compareInt (a.size : Int) 0 = x at *
        obtain rfl := empty_of z2
        have he := toList_cons (s := a) (by omega)
        have he2 : a.toList ≠ [] := by intro h; rw [h] at he; cases he
        clear z1 z2 HR HT C
        go_enter Tryd.func27, Tryd.ntmps27
        go_wp2_with fail
        refine (CI.out _).mono ?_
        rintro e w1 ⟨rfl, rfl⟩
        go_wp2_with fail
        go_ret
        exact ⟨by rw [HV.out]; rfl, Below.refl _ _⟩
      · have HV : Hid (cmpTxt 1 a.data.toList b.data.toList = cmpRel 1 a.data.toList b.data.toList) := by
          show cmpTxt 1 _ _ = _
          rw [HR.out, if_neg z1, if_neg z2, show cmpI 1 1 = 0 from rfl, thenC_zero]; rfl
        have he := toList_cons (s := a) (by omega)
        have he2 : a.toList ≠ [] := by intro h; rw [h] at he; cases he
        have ge := toList_cons (s := b) (by omega)
        have ge2 : b.toList ≠ [] := by intro h; rw [h] at ge; cases ge
        clear z1 z2 HR HT
        go_enter Tryd.func27, Tryd.ntmps27
        go_wp2_with fail
        refine (C.out _).mono ?_
        rintro e w1 ⟨rfl, hb1⟩
        go_wp2_with fail
        go_ret
        exact ⟨by rw [HV.out]; rfl, hb1⟩
  · have t1 : (kind == 1) = false := by simpa using h
    have HV := Lib.hid (show cmpTxt kind a.data.toList b.data.toList = cmpRel kind a.data.toList b.data.toList by unfold cmpTxt cmpRel; rw [if_neg h, if_neg h])
    clear h
    go_enter Tryd.func27, Tryd.ntmps27
    go_wp2_with fail
    refine (C.out _).mono ?_
    rintro e w1 ⟨rfl, hb1⟩
    go_wp2_with fail
    go_ret
    exact ⟨by rw [HV.out]; rfl, hb1⟩
end Go.Proofs.YtbfpljlgjpmmmaaDoor
