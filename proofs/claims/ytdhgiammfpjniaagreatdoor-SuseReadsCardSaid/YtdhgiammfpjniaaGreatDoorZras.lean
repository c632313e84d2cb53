/- Parts of the proof. -/
import Derived.Test.YtdhgiammfpjniaaGreatDoorZrah
import Derived.Test.YtdhgiammfpjniaaGreatDoorZrar
import Derived.Test.YtdhgiammfpjniaaGreatDoorZraa
namespace Go.Proofs.YtdhgiammfpjniaaGreatDoor.Ev
set_option linter.unusedSimpArgs false
set_option linter.unusedVariables false
open Go.RowKit
theorem isnt2 {s : ByteArray} {l : List UInt8} (h : s.data.toList ≠ l) : (s.toList == l) = false ∧ ¬ s.toList = l := by rw [ByteArray.toList_eq]; exact ⟨beq_eq_false_iff_ne.2 h, h⟩
set_option maxHeartbeats 1000000 in
set_option maxRecDepth 100000 in
theorem afQ5 (s : ByteArray) (w : World) : Calls Tryz.prog 171 #[.string s] w fun e w' => e = .returned (.int .i64 (numS s.data.toList)) ∧ w = w' := by
 obtain ⟨x, hx⟩ : ∃ x, Hid (x = numS s.data.toList) := ⟨_, rfl⟩
 rw [← hx.out]
 by_cases h0 : s.data.toList = [60]
 ·have HV : Hid (x = 1) := by
   show x = _
   rw [hx.out, h0]; rfl
  obtain rfl := aaQx h0
  clear hx h0
  go_enter Tryz.func171, Tryz.ntmps171
  go_wp2_with fail
  go_ret
  exact ⟨by rw [HV.out]; rfl, rfl⟩
 obtain ⟨t0, u0⟩ := isnt2 h0
 have v0 := aaQr h0
 by_cases h1 : s.data.toList = [61]
 ·have HV : Hid (x = 2) := by
   show x = _
   rw [hx.out, h1]; rfl
  obtain rfl := aaQx h1
  clear hx h1
  go_enter Tryz.func171, Tryz.ntmps171
  go_wp2_with fail
  go_ret
  exact ⟨by rw [HV.out]; rfl, rfl⟩
 obtain ⟨t1, u1⟩ := isnt2 h1
 have v1 := aaQr h1
 by_cases h2 : s.data.toList = [60, 61]
 ·have HV : Hid (x = 3) := by
   show x = _
   rw [hx.out, h2]; rfl
  obtain rfl := aaQx h2
  clear hx h2
  go_enter Tryz.func171, Tryz.ntmps171
  go_wp2_with fail
  go_ret
  exact ⟨by rw [HV.out]; rfl, rfl⟩
 obtain ⟨t2, u2⟩ := isnt2 h2
 have v2 := aaQr h2
 by_cases h3 : s.data.toList = [62]
 ·have HV : Hid (x = 4) := by
   show x = _
   rw [hx.out, h3]; rfl
  obtain rfl := aaQx h3
  clear hx h3
  go_enter Tryz.func171, Tryz.ntmps171
  go_wp2_with fail
  go_ret
  exact ⟨by rw [HV.out]; rfl, rfl⟩
 obtain ⟨t3, u3⟩ := isnt2 h3
 have v3 := aaQr h3
 by_cases h4 : s.data.toList = [60, 62]
 ·have HV : Hid (x = 5) := by
   show x = _
   rw [hx.out, h4]; rfl
  obtain rfl := aaQx h4
  clear hx h4
  go_enter Tryz.func171, Tryz.ntmps171
  go_wp2_with fail
  go_ret
  exact ⟨by rw [HV.out]; rfl, rfl⟩
 obtain ⟨t4, u4⟩ := isnt2 h4
 have v4 := aaQr h4
 by_cases h5 : s.data.toList = [62, 61]
 ·have HV : Hid (x = 6) := by
   show x = _
   rw [hx.out, h5]; rfl
  obtain rfl := aaQx h5
  clear hx h5
  go_enter Tryz.func171, Tryz.ntmps171
  go_wp2_with fail
  go_ret
  exact ⟨by rw [HV.out]; rfl, rfl⟩
 obtain ⟨t5, u5⟩ := isnt2 h5
 have v5 := aaQr h5
 by_cases h6 : s.data.toList = [60, 61, 62]
 ·have HV : Hid (x = 7) := by
   show x = _
   rw [hx.out, h6]; rfl
  obtain rfl := aaQx h6
  clear hx h6
  go_enter Tryz.func171, Tryz.ntmps171
  go_wp2_with fail
  go_ret
  exact ⟨by rw [HV.out]; rfl, rfl⟩
 obtain ⟨t6, u6⟩ := isnt2 h6
 have v6 := aaQr h6
 have HV : Hid (x = 0) := by
  show x = _
  rw [hx.out]
  unfold numS
  simp only [h0, h1, h2, h3, h4, h5, h6, if_false]
 clear hx h0 h1 h2 h3 h4 h5 h6
 go_enter Tryz.func171, Tryz.ntmps171
 go_wp2_with fail
 go_ret
 exact ⟨by rw [HV.out]; rfl, rfl⟩
def wordB (l : Wd) : Bool := decide (l = wAnd) || decide (l = wOr) || decide (l = wIf) || decide (l = wElse) || decide (l = wWith) || decide (l = aaQ1)
theorem alQz {l : Wd} (h : wordB l = false) : numW l = 0 ∧ l ≠ wElse := by
 unfold wordB at h
 simp only [Bool.or_eq_false_iff, decide_eq_false_iff_not] at h
 obtain ⟨⟨⟨⟨⟨h1, h2⟩, h3⟩, h4⟩, h5⟩, h6⟩ := h
 exact ⟨by unfold numW; simp only [h1, h2, h3, h5, h6, if_false], h4⟩
theorem aoQf {l : Wd} (h : wordB l = true) : numW l ≠ 0 ∨ l = wElse := by
 unfold wordB at h
 simp only [Bool.or_eq_true, decide_eq_true_eq] at h
 rcases h with ((((rfl | rfl) | rfl) | rfl) | rfl) | rfl <;> decide
set_option maxHeartbeats 1000000 in
set_option maxRecDepth 100000 in
theorem akQd (s : ByteArray) (w : World) : Calls Tryz.prog 170 #[.string s] w fun e w' => e = .returned (.bool (wordB s.data.toList)) ∧ w = w' := by
 obtain ⟨x, hx⟩ : ∃ x, Hid (x = wordB s.data.toList) := ⟨_, rfl⟩
 rw [← hx.out]
 by_cases h0 : s.data.toList = [97, 110, 100]
 ·have HV : Hid (x = true) := by
   show x = _
   rw [hx.out, h0]; rfl
  obtain rfl := aaQx h0
  clear hx h0
  go_enter Tryz.func170, Tryz.ntmps170
  go_wp2_with fail
  go_ret
  exact ⟨by rw [HV.out]; rfl, rfl⟩
 obtain ⟨t0, u0⟩ := isnt2 h0
 have v0 := aaQr h0
 by_cases h1 : s.data.toList = [111, 114]
 ·have HV : Hid (x = true) := by
   show x = _
   rw [hx.out, h1]; rfl
  obtain rfl := aaQx h1
  clear hx h1
  go_enter Tryz.func170, Tryz.ntmps170
  go_wp2_with fail
  go_ret
  exact ⟨by rw [HV.out]; rfl, rfl⟩
 obtain ⟨t1, u1⟩ := isnt2 h1
 have v1 := aaQr h1
 by_cases h2 : s.data.toList = [105, 102]
 ·have HV : Hid (x = true) := by
   show x = _
   rw [hx.out, h2]; rfl
  obtain rfl := aaQx h2
  clear hx h2
  go_enter Tryz.func170, Tryz.ntmps170
  go_wp2_with fail
  go_ret
  exact ⟨by rw [HV.out]; rfl, rfl⟩
 obtain ⟨t2, u2⟩ := isnt2 h2
 have v2 := aaQr h2
 by_cases h3 : s.data.toList = [101, 108, 115, 101]
 ·have HV : Hid (x = true) := by
   show x = _
   rw [hx.out, h3]; rfl
  obtain rfl := aaQx h3
  clear hx h3
  go_enter Tryz.func170, Tryz.ntmps170
  go_wp2_with fail
  go_ret
  exact ⟨by rw [HV.out]; rfl, rfl⟩
 obtain ⟨t3, u3⟩ := isnt2 h3
 have v3 := aaQr h3
 by_cases h4 : s.data.toList = [119, 105, 116, 104]
 ·have HV : Hid (x = true) := by
   show x = _
   rw [hx.out, h4]; rfl
  obtain rfl := aaQx h4
  clear hx h4
  go_enter Tryz.func170, Tryz.ntmps170
  go_wp2_with fail
  go_ret
  exact ⟨by rw [HV.out]; rfl, rfl⟩
 obtain ⟨t4, u4⟩ := isnt2 h4
 have v4 := aaQr h4
 by_cases h5 : s.data.toList = [119, 105, 116, 104, 111, 117, 116]
 ·have HV : Hid (x = true) := by
   show x = _
   rw [hx.out, h5]; rfl
  obtain rfl := aaQx h5
  clear hx h5
  go_enter Tryz.func170, Tryz.ntmps170
  go_wp2_with fail
  go_ret
  exact ⟨by rw [HV.out]; rfl, rfl⟩
 obtain ⟨t5, u5⟩ := isnt2 h5
 have v5 := aaQr h5
 have HV : Hid (x = false) := by
  show x = _
  rw [hx.out]
  unfold wordB wAnd wOr wIf wElse wWith aaQ1
  simp only [h0, h1, h2, h3, h4, h5, decide_false, Bool.or_false]
 clear hx h0 h1 h2 h3 h4 h5
 go_enter Tryz.func170, Tryz.ntmps170
 go_wp2_with fail
 go_ret
 exact ⟨by rw [HV.out]; rfl, rfl⟩
theorem scan_41 {l : Wd} (h : l.head? = some 41) : scan 0 l = false := by
 cases l with
 | nil => simp at h
 | cons c r => simp at h; subst h; rfl
theorem name_41 {l : Wd} (h : l.head? = some 41) : nameB l = false := by
 unfold nameB
 rw [scan_41 h, Bool.and_false]
set_option maxHeartbeats 4000000 in
set_option maxRecDepth 100000 in
theorem acQ4 (s : ByteArray) (hs : s.size ≤ maxLen) (w : World) : Calls Tryz.prog 112 #[.string s] w fun e w' => e = .returned (.bool (nameB s.data.toList)) ∧ w = w' := by
 unfold maxLen at hs
 obtain ⟨x, hx⟩ : ∃ x, x = nameB s.data.toList := ⟨_, rfl⟩
 rw [← hx]
 have HX := hQQ hx
 clear hx
 obtain ⟨y, hy⟩ : ∃ y, Hid (y = wordB s.data.toList) := ⟨_, rfl⟩
 have CW := hQQ (fun w => akQd s w)
 rw [← hy.out] at CW
 have CS := hQQ (fun w => afQ5 s w)
 by_cases h0 : s.size = 0
 ·obtain rfl := afQa h0
  have HV : Hid (x = false) := HX.out.trans (acQy (.inl rfl))
  clear CS hy h0
  clear HX
  go_enter Tryz.func112, Tryz.ntmps112
  go_wp2_with fail
  refine (CW.out _).mono ?_
  rintro e w' ⟨rfl, rfl⟩
  go_wp2_with fail
  go_ret
  exact ⟨by rw [HV.out]; rfl, rfl⟩
 have hp : 0 < s.size := by omega
 have e0 : s.toList.isEmpty = false ∧ ¬ s.toList = [] ∧ s.data.toList ≠ [] := abQg h0
 obtain ⟨b1, b2, b3⟩ := e0
 have hp1 : ¬ (s.size : Int) < 1 := by omega
 by_cases h60 : 60 < s.size
 ·have HV : Hid (x = false) := HX.out.trans (acQy (.inr (.inl (by rw [aaQd]; exact h60))))
  have t60 : (60 : Int) < (s.size : Int) := by omega
  clear HX CS hy b3
  go_enter Tryz.func112, Tryz.ntmps112
  go_wp2_with fail
  refine (CW.out _).mono ?_
  rintro e w' ⟨rfl, rfl⟩
  go_wp2_with fail
  go_ret
  exact ⟨by rw [HV.out]; rfl, rfl⟩
 have t60 : ¬ (60 : Int) < (s.size : Int) := by omega
 by_cases h40 : s[0] = 40
 ·obtain ⟨t1, _⟩ := abQu (n := 40) rfl h40
  have HV : Hid (x = false) := HX.out.trans (acQy (.inr (.inr (.inl (by rw [ahQm hp, h40])))))
  clear HX h40 CS hy b3
  go_enter Tryz.func112, Tryz.ntmps112
  go_wp2_with fail
  refine (CW.out _).mono ?_
  rintro e w' ⟨rfl, rfl⟩
  go_wp2_with fail
  go_ret
  exact ⟨by rw [HV.out]; rfl, rfl⟩
 obtain ⟨t1, _⟩ := aaQ6 (n := 40) rfl h40
 by_cases h41 : s[0] = 41
 ·obtain ⟨t1', _⟩ := abQu (n := 41) rfl h41
  have HV : Hid (x = false) := HX.out.trans (name_41 (by rw [ahQm hp, h41]))
  clear HX h40 h41 CS hy b3
  go_enter Tryz.func112, Tryz.ntmps112
  go_wp2_with fail
  refine (CW.out _).mono ?_
  rintro e w' ⟨rfl, rfl⟩
  go_wp2_with fail
  go_ret
  exact ⟨by rw [HV.out]; rfl, rfl⟩
 obtain ⟨t1', _⟩ := aaQ6 (n := 41) rfl h41
 cases y with
 | true =>
   have HV : Hid (x = false) := HX.out.trans (acQy (.inr (.inr (.inr (by
    rcases aoQf hy.out.symm with h | h
    ·exact .inr (.inl h)
    ·exact .inl h)))))
   clear HX h40 h41 CS hy b3
   go_enter Tryz.func112, Tryz.ntmps112
   go_wp2_with fail
   refine (CW.out _).mono ?_
   rintro e w' ⟨rfl, rfl⟩
   go_wp2_with fail
   go_ret
   exact ⟨by rw [HV.out]; rfl, rfl⟩
 | false =>
   obtain ⟨hw1, hw2⟩ := alQz hy.out.symm
   have HN := hQQ (fun (h6 : numS s.data.toList = 0) => HX.out.trans (akQz (by rw [aaQd]; omega) (by rw [aaQd]; omega) (by rw [ahQm hp]; intro e; injection e with e; exact h40 e) hw2 hw1 h6))
   have HF := hQQ (fun (h : numS s.data.toList ≠ 0) => HX.out.trans (acQy (.inr (.inr (.inr (.inr (.inr h)))))))
   clear HX h40 h41 hw1 hw2 hy b3
   generalize numS s.data.toList = g at *
   by_cases hg : g ≠ 0
   ·have HV : Hid (x = false) := HF.out hg
    have tm : (g != 0) = true := by simpa using hg
    have tm' : (g == 0) = false := beq_eq_false_iff_ne.2 hg
    clear HF HN hg
    go_enter Tryz.func112, Tryz.ntmps112
    go_wp2_with fail
    refine (CW.out _).mono ?_
    rintro e w' ⟨rfl, rfl⟩
    go_wp2_with fail
    refine (CS.out _).mono ?_
    rintro e w' ⟨rfl, rfl⟩
    go_wp2_with fail
    go_ret
    exact ⟨by rw [HV.out]; rfl, rfl⟩
   obtain rfl : g = 0 := by omega
   clear hg
   have HV : Hid (x = scan 0 (s.data.toList.drop 0)) := HN.out rfl
   clear HF HN
   go_enter Tryz.func112, Tryz.ntmps112
   go_wp2_with fail
   refine (CW.out _).mono ?_
   rintro e w' ⟨rfl, rfl⟩
   go_wp2_with fail
   refine (CS.out _).mono ?_
   rintro e w' ⟨rfl, rfl⟩
   clear CS CW t1 t1'
   go_wp2_with fail
   go_loop [4, 5] (fun o i => ∃ k n : Nat, k ≤ s.size ∧ n ≤ k ∧ i = .int .i64 (k : Int) ∧ o = .int .i64 (n : Int) ∧ Hid (x = scan n (s.data.toList.drop k))) (fun _ i => s.size - (intOf i).toNat)
   case atStart => exact ⟨0, 0, Nat.zero_le _, Nat.le_refl _, rfl, rfl, HV⟩
   case round =>
    obtain ⟨k, n, hk, hnk, rfl, rfl, hn⟩ := hrel
    clear HV
    by_cases hlt : k < s.size
    ·have HS : Hid (x = if s[k] < 33 ∨ 126 < s[k] then false else if s[k] = 40 then scan (n + 1) (s.data.toList.drop (k + 1)) else if s[k] = 41 then (if n = 0 then false else scan (n - 1) (s.data.toList.drop (k + 1))) else scan n (s.data.toList.drop (k + 1))) := hn.out.trans (aqQc hlt)
     have l33 : decide ((s[k].toNat : Int) < 33) = decide (s[k] < 33) := u8_lt (n := 33) (by omega)
     have l126 : decide ((126 : Int) < (s[k].toNat : Int)) = decide (126 < s[k]) := by
      rw [Bool.eq_iff_iff]
      simp only [decide_eq_true_eq, UInt8.lt_iff_toNat_lt]
      show (126 : Int) < _ ↔ 126 < _
      omega
     clear hn
     by_cases hc : s[k] < 33 ∨ 126 < s[k]
     ·have HV : Hid (x = false) := HS.out.trans (if_pos hc)
      have tc : (s[k].toNat : Int) < 33 ∨ ¬ (s[k].toNat : Int) < 33 ∧ (126 : Int) < (s[k].toNat : Int) := by
       rcases hc with h | h
       ·left; simpa [h] using l33
       ·by_cases h' : (s[k].toNat : Int) < 33
        ·exact .inl h'
        ·right; exact ⟨h', by simpa [h] using l126⟩
      clear HS l33 l126 hc
      rcases tc with t | ⟨t, t'⟩
      all_goals
       go_wp2_with fail
       go_ret
       exact ⟨by rw [HV.out]; rfl, rfl⟩
     ·have t33 : ¬ (s[k].toNat : Int) < 33 := by
       intro h
       rw [decide_eq_true h] at l33
       exact hc (.inl (of_decide_eq_true l33.symm))
      have t126 : ¬ (126 : Int) < (s[k].toNat : Int) := by
       intro h
       rw [decide_eq_true h] at l126
       exact hc (.inr (of_decide_eq_true l126.symm))
      have HS1 := hQQ (HS.out.trans (if_neg hc))
      clear HS l33 l126 hc
      have tn0 : ¬ (n : Int) < 0 := by omega
      have tn1 : ¬ (n : Int) + 1 < 0 := by omega
      by_cases h4 : s[k] = 40
      ·obtain ⟨t4, _⟩ := abQu (n := 40) rfl h4
       have hne5 : s[k] ≠ 41 := by rw [h4]; decide
       obtain ⟨t5, _⟩ := aaQ6 (n := 41) rfl hne5
       clear hne5
       have HV := hQQ (HS1.out.trans (if_pos h4))
       clear HS1 h4
       go_wp2_with fail
       go_round
       case rel => exact ⟨k + 1, n + 1, by omega, by omega, by go_num, by go_num, HV.out⟩
       case measure => simp [intOf]; omega
      ·obtain ⟨t4, _⟩ := aaQ6 (n := 40) rfl h4
       have HS2 := hQQ (HS1.out.trans (if_neg h4))
       clear HS1 h4
       by_cases h5 : s[k] = 41
       ·obtain ⟨t5, _⟩ := abQu (n := 41) rfl h5
        have HS3 := hQQ (HS2.out.trans (if_pos h5))
        clear HS2 h5
        by_cases hn0 : n = 0
        ·subst hn0
         have HV : Hid (x = false) := HS3.out.trans (if_pos rfl)
         clear HS3
         go_wp2_with fail
         go_ret
         exact ⟨by rw [HV.out]; rfl, rfl⟩
        ·have HV := hQQ (HS3.out.trans (if_neg hn0))
         have hn1 : 1 ≤ n := by omega
         have tn2 : ¬ (n : Int) - 1 < 0 := by omega
         clear HS3 hn0
         go_wp2_with fail
         go_round
         case rel => exact ⟨k + 1, n - 1, by omega, by omega, by go_num, by congr 1; omega, HV.out⟩
         case measure => simp [intOf]; omega
       ·obtain ⟨t5, _⟩ := aaQ6 (n := 41) rfl h5
        have HV := hQQ (HS2.out.trans (if_neg h5))
        clear HS2 h5
        go_wp2_with fail
        go_round
        case rel => exact ⟨k + 1, n, by omega, by omega, by go_num, rfl, HV.out⟩
        case measure => simp [intOf]; omega
    ·have HV : Hid (x = (n == 0)) := by
      show x = _
      rw [hn.out, List.drop_eq_nil_of_le (by rw [aaQd]; omega)]
      rfl
     clear hn
     go_wp2_with fail
     go_ret
     refine ⟨aaQj ?_, rfl⟩
     rw [HV.out, Bool.eq_iff_iff]
     simp <;> omega
end Go.Proofs.YtdhgiammfpjniaaGreatDoor.Ev
