/- The reference's signs, words, names. The reference's words of a text. -/
import Derived.Test.YtghbhajiddnmkaaDoorDNames
import Derived.Test.YtghbhajiddnmkaaDoorUp
namespace Go.Proofs.YtghbhajiddnmkaaDoor
set_option linter.unusedSimpArgs false
set_option linter.unusedVariables false
open Go.RowKit

theorem isnt2 {s : ByteArray} {l : List UInt8} (h : s.data.toList ≠ l) : (s.toList == l) = false ∧ ¬ s.toList = l := by rw [ByteArray.toList_eq]; exact ⟨beq_eq_false_iff_ne.2 h, h⟩
set_option maxHeartbeats 1000000 in
set_option maxRecDepth 100000 in
theorem refSignD_any (s : ByteArray) (w : World) : Calls Tryd.prog 27 #[.string s] w fun e w' => e = .returned (.int .i64 (numS s.data.toList)) ∧ w = w' := by
  obtain ⟨x, hx⟩ : ∃ x, Hid (x = numS s.data.toList) := ⟨_, rfl⟩
  rw [← hx.out]
  by_cases h0 : s.data.toList = [60]
  · have HV : Hid (x = 1) := by
      show x = _
      rw [hx.out, h0]; rfl
    obtain rfl := str_is h0
    clear hx h0
    go_enter Tryd.func27, Tryd.ntmps27
    go_wp2_with fail
    go_ret
    exact ⟨by rw [HV.out]; rfl, rfl⟩
  obtain ⟨t0, u0⟩ := isnt2 h0
  have v0 := str_isnt h0
  by_cases h1 : s.data.toList = [61]
  · have HV : Hid (x = 2) := by
      show x = _
      rw [hx.out, h1]; rfl
    obtain rfl := str_is h1
    clear hx h1
    go_enter Tryd.func27, Tryd.ntmps27
    go_wp2_with fail
    go_ret
    exact ⟨by rw [HV.out]; rfl, rfl⟩
  obtain ⟨t1, u1⟩ := isnt2 h1
  have v1 := str_isnt h1
  by_cases h2 : s.data.toList = [60, 61]
  · have HV : Hid (x = 3) := by
      show x = _
      rw [hx.out, h2]; rfl
    obtain rfl := str_is h2
    clear hx h2
    go_enter Tryd.func27, Tryd.ntmps27
    go_wp2_with fail
    go_ret
    exact ⟨by rw [HV.out]; rfl, rfl⟩
  obtain ⟨t2, u2⟩ := isnt2 h2
  have v2 := str_isnt h2
  by_cases h3 : s.data.toList = [62]
  · have HV : Hid (x = 4) := by
      show x = _
      rw [hx.out, h3]; rfl
    obtain rfl := str_is h3
    clear hx h3
    go_enter Tryd.func27, Tryd.ntmps27
    go_wp2_with fail
    go_ret
    exact ⟨by rw [HV.out]; rfl, rfl⟩
  obtain ⟨t3, u3⟩ := isnt2 h3
  have v3 := str_isnt h3
  by_cases h4 : s.data.toList = [60, 62]
  · have HV : Hid (x = 5) := by
      show x = _
      rw [hx.out, h4]; rfl
    obtain rfl := str_is h4
    clear hx h4
    go_enter Tryd.func27, Tryd.ntmps27
    go_wp2_with fail
    go_ret
    exact ⟨by rw [HV.out]; rfl, rfl⟩
  obtain ⟨t4, u4⟩ := isnt2 h4
  have v4 := str_isnt h4
  by_cases h5 : s.data.toList = [62, 61]
  · have HV : Hid (x = 6) := by
      show x = _
      rw [hx.out, h5]; rfl
    obtain rfl := str_is h5
    clear hx h5
    go_enter Tryd.func27, Tryd.ntmps27
    go_wp2_with fail
    go_ret
    exact ⟨by rw [HV.out]; rfl, rfl⟩
  obtain ⟨t5, u5⟩ := isnt2 h5
  have v5 := str_isnt h5
  by_cases h6 : s.data.toList = [60, 61, 62]
  · have HV : Hid (x = 7) := by
      show x = _
      rw [hx.out, h6]; rfl
    obtain rfl := str_is h6
    clear hx h6
    go_enter Tryd.func27, Tryd.ntmps27
    go_wp2_with fail
    go_ret
    exact ⟨by rw [HV.out]; rfl, rfl⟩
  obtain ⟨t6, u6⟩ := isnt2 h6
  have v6 := str_isnt h6
  have HV : Hid (x = 0) := by
    show x = _
    rw [hx.out]
    unfold numS
    simp only [h0, h1, h2, h3, h4, h5, h6, if_false]
  clear hx h0 h1 h2 h3 h4 h5 h6
  go_enter Tryd.func27, Tryd.ntmps27
  go_wp2_with fail
  go_ret
  exact ⟨by rw [HV.out]; rfl, rfl⟩
def wordB (l : Wd) : Bool := decide (l = wAnd) || decide (l = wOr) || decide (l = wIf) || decide (l = wElse) || decide (l = wWith) || decide (l = wWithout)
theorem wordB_false {l : Wd} (h : wordB l = false) : numW l = 0 ∧ l ≠ wElse := by
  unfold wordB at h
  simp only [Bool.or_eq_false_iff, decide_eq_false_iff_not] at h
  obtain ⟨⟨⟨⟨⟨h1, h2⟩, h3⟩, h4⟩, h5⟩, h6⟩ := h
  exact ⟨by unfold numW; simp only [h1, h2, h3, h5, h6, if_false], h4⟩
theorem wordB_true {l : Wd} (h : wordB l = true) : numW l ≠ 0 ∨ l = wElse := by
  unfold wordB at h
  simp only [Bool.or_eq_true, decide_eq_true_eq] at h
  rcases h with ((((rfl | rfl) | rfl) | rfl) | rfl) | rfl <;> decide
set_option maxHeartbeats 1000000 in
set_option maxRecDepth 100000 in
theorem refWordD_any (s : ByteArray) (w : World) : Calls Tryd.prog 26 #[.string s] w fun e w' => e = .returned (.bool (wordB s.data.toList)) ∧ w = w' := by
  obtain ⟨x, hx⟩ : ∃ x, Hid (x = wordB s.data.toList) := ⟨_, rfl⟩
  rw [← hx.out]
  by_cases h0 : s.data.toList = [97, 110, 100]
  · have HV : Hid (x = true) := by
      show x = _
      rw [hx.out, h0]; rfl
    obtain rfl := str_is h0
    clear hx h0
    go_enter Tryd.func26, Tryd.ntmps26
    go_wp2_with fail
    go_ret
    exact ⟨by rw [HV.out]; rfl, rfl⟩
  obtain ⟨t0, u0⟩ := isnt2 h0
  have v0 := str_isnt h0
  by_cases h1 : s.data.toList = [111, 114]
  · have HV : Hid (x = true) := by
      show x = _
      rw [hx.out, h1]; rfl
    obtain rfl := str_is h1
    clear hx h1
    go_enter Tryd.func26, Tryd.ntmps26
    go_wp2_with fail
    go_ret
    exact ⟨by rw [HV.out]; rfl, rfl⟩
  obtain ⟨t1, u1⟩ := isnt2 h1
  have v1 := str_isnt h1
  by_cases h2 : s.data.toList = [105, 102]
  · have HV : Hid (x = true) := by
      show x = _
      rw [hx.out, h2]; rfl
    obtain rfl := str_is h2
    clear hx h2
    go_enter Tryd.func26, Tryd.ntmps26
    go_wp2_with fail
    go_ret
    exact ⟨by rw [HV.out]; rfl, rfl⟩
  obtain ⟨t2, u2⟩ := isnt2 h2
  have v2 := str_isnt h2
  by_cases h3 : s.data.toList = [101, 108, 115, 101]
  · have HV : Hid (x = true) := by
      show x = _
      rw [hx.out, h3]; rfl
    obtain rfl := str_is h3
    clear hx h3
    go_enter Tryd.func26, Tryd.ntmps26
    go_wp2_with fail
    go_ret
    exact ⟨by rw [HV.out]; rfl, rfl⟩
  obtain ⟨t3, u3⟩ := isnt2 h3
  have v3 := str_isnt h3
  by_cases h4 : s.data.toList = [119, 105, 116, 104]
  · have HV : Hid (x = true) := by
      show x = _
      rw [hx.out, h4]; rfl
    obtain rfl := str_is h4
    clear hx h4
    go_enter Tryd.func26, Tryd.ntmps26
    go_wp2_with fail
    go_ret
    exact ⟨by rw [HV.out]; rfl, rfl⟩
  obtain ⟨t4, u4⟩ := isnt2 h4
  have v4 := str_isnt h4
  by_cases h5 : s.data.toList = [119, 105, 116, 104, 111, 117, 116]
  · have HV : Hid (x = true) := by
      show x = _
      rw [hx.out, h5]; rfl
    obtain rfl := str_is h5
    clear hx h5
    go_enter Tryd.func26, Tryd.ntmps26
    go_wp2_with fail
    go_ret
    exact ⟨by rw [HV.out]; rfl, rfl⟩
  obtain ⟨t5, u5⟩ := isnt2 h5
  have v5 := str_isnt h5
  have HV : Hid (x = false) := by
    show x = _
    rw [hx.out]
    unfold wordB wAnd wOr wIf wElse wWith wWithout
    simp only [h0, h1, h2, h3, h4, h5, decide_false, Bool.or_false]
  clear hx h0 h1 h2 h3 h4 h5
  go_enter Tryd.func26, Tryd.ntmps26
  go_wp2_with fail
  go_ret
  exact ⟨by rw [HV.out]; rfl, rfl⟩

theorem scan_41 {l : Wd} (h : l.head? = some 41) : scan 0 l = false := by
  cases l with
  | nil => simp at h
  | cons c r => simp at h; subst h; rfl
theorem name_41 {l : Wd} (h : l.head? = some 41) : nameB l = false := by
  unfold nameB
  rw [scan_41 h, Bool.and_false]
set_option maxHeartbeats 4000000 in
set_option maxRecDepth 100000 in
theorem refNameD_any (s : ByteArray) (hs : s.size ≤ maxLen) (w : World) : Calls Tryd.prog 12 #[.string s] w fun e w' => e = .returned (.bool (nameB s.data.toList)) ∧ w = w' := by
  unfold maxLen at hs
  obtain ⟨x, hx⟩ : ∃ x, x = nameB s.data.toList := ⟨_, rfl⟩
  rw [← hx]
  have HX := Lib.hid hx
  clear hx
  obtain ⟨y, hy⟩ : ∃ y, Hid (y = wordB s.data.toList) := ⟨_, rfl⟩
  have CW := Lib.hid (fun w => refWordD_any s w)
  rw [← hy.out] at CW
  have CS := Lib.hid (fun w => refSignD_any s w)
  by_cases h0 : s.size = 0
  · obtain rfl := empty_of h0
    have HV : Hid (x = false) := HX.out.trans (name_no (.inl rfl))
    clear CS hy h0
    clear HX 
    go_enter Tryd.func12, Tryd.ntmps12
    go_wp2_with fail
    refine (CW.out _).mono ?_
    rintro e w' ⟨rfl, rfl⟩
    go_wp2_with fail
    go_ret
    exact ⟨by rw [HV.out]; rfl, rfl⟩
  have hp : 0 < s.size := by omega
  have e0 : s.toList.isEmpty = false ∧ ¬ s.toList = [] ∧ s.data.toList ≠ [] := blank_of h0
  obtain ⟨b1, b2, b3⟩ := e0
  have hp1 : ¬ (s.size : Int) < 1 := by omega
  by_cases h60 : 60 < s.size
  · have HV : Hid (x = false) := HX.out.trans (name_no (.inr (.inl (by rw [size_len]; exact h60))))
    have t60 : (60 : Int) < (s.size : Int) := by omega
    clear HX CS hy b3
    go_enter Tryd.func12, Tryd.ntmps12
    go_wp2_with fail
    refine (CW.out _).mono ?_
    rintro e w' ⟨rfl, rfl⟩
    go_wp2_with fail
    go_ret
    exact ⟨by rw [HV.out]; rfl, rfl⟩
  have t60 : ¬ (60 : Int) < (s.size : Int) := by omega
  by_cases h40 : s[0] = 40
  · obtain ⟨t1, _⟩ := u8_hit (n := 40) rfl h40
    have HV : Hid (x = false) := HX.out.trans (name_no (.inr (.inr (.inl (by rw [head_at hp, h40])))))
    clear HX h40 CS hy b3
    go_enter Tryd.func12, Tryd.ntmps12
    go_wp2_with fail
    refine (CW.out _).mono ?_
    rintro e w' ⟨rfl, rfl⟩
    go_wp2_with fail
    go_ret
    exact ⟨by rw [HV.out]; rfl, rfl⟩
  obtain ⟨t1, _⟩ := u8_miss (n := 40) rfl h40
  by_cases h41 : s[0] = 41
  · obtain ⟨t1', _⟩ := u8_hit (n := 41) rfl h41
    have HV : Hid (x = false) := HX.out.trans (name_41 (by rw [head_at hp, h41]))
    clear HX h40 h41 CS hy b3
    go_enter Tryd.func12, Tryd.ntmps12
    go_wp2_with fail
    refine (CW.out _).mono ?_
    rintro e w' ⟨rfl, rfl⟩
    go_wp2_with fail
    go_ret
    exact ⟨by rw [HV.out]; rfl, rfl⟩
  obtain ⟨t1', _⟩ := u8_miss (n := 41) rfl h41
  cases y with
  | true =>
    have HV : Hid (x = false) := HX.out.trans (name_no (.inr (.inr (.inr (by
      rcases wordB_true hy.out.symm with h | h
      · exact .inr (.inl h)
      · exact .inl h)))))
    clear HX h40 h41 CS hy b3
    go_enter Tryd.func12, Tryd.ntmps12
    go_wp2_with fail
    refine (CW.out _).mono ?_
    rintro e w' ⟨rfl, rfl⟩
    go_wp2_with fail
    go_ret
    exact ⟨by rw [HV.out]; rfl, rfl⟩
  | false =>
    obtain ⟨hw1, hw2⟩ := wordB_false hy.out.symm
    have HN := Lib.hid (fun (h6 : numS s.data.toList = 0) => HX.out.trans (name_cons (by rw [size_len]; omega) (by rw [size_len]; omega) (by rw [head_at hp]; intro e; injection e with e; exact h40 e) hw2 hw1 h6))
    have HF := Lib.hid (fun (h : numS s.data.toList ≠ 0) => HX.out.trans (name_no (.inr (.inr (.inr (.inr (.inr h)))))))
    clear HX h40 h41 hw1 hw2 hy b3
    generalize numS s.data.toList = g at *
    by_cases hg : g ≠ 0
    · have HV : Hid (x = false) := HF.out hg
      have tm : (g != 0) = true := by simpa using hg
      have tm' : (g == 0) = false := beq_eq_false_iff_ne.2 hg
      clear HF HN hg
      go_enter Tryd.func12, Tryd.ntmps12
      go_wp2_with fail
      refine (CW.out _).mono ?_
      rintro e w' ⟨rfl, rfl⟩
      go_wp2_with fail
      refine (CS.out _).mono ?_
      rintro e w' ⟨rfl, rfl⟩
      go_wp2_with fail
      go_ret
      exact ⟨by rw [HV.out]; rfl, rfl⟩
    obtain rfl : g = 0 := by omega
    clear hg
    have HV : Hid (x = scan 0 (s.data.toList.drop 0)) := HN.out rfl
    clear HF HN
    go_enter Tryd.func12, Tryd.ntmps12
    go_wp2_with fail
    refine (CW.out _).mono ?_
    rintro e w' ⟨rfl, rfl⟩
    go_wp2_with fail
    refine (CS.out _).mono ?_
    rintro e w' ⟨rfl, rfl⟩
    clear CS CW t1 t1'
    go_wp2_with fail
    go_loop [4, 5] (fun o i => ∃ k n : Nat, k ≤ s.size ∧ n ≤ k ∧ i = .int .i64 (k : Int) ∧ o = .int .i64 (n : Int) ∧ Hid (x = scan n (s.data.toList.drop k))) (fun _ i => s.size - (intOf i).toNat)
    case atStart => exact ⟨0, 0, Nat.zero_le _, Nat.le_refl _, rfl, rfl, HV⟩
    case round =>
      obtain ⟨k, n, hk, hnk, rfl, rfl, hn⟩ := hrel
      clear HV
      by_cases hlt : k < s.size
      · have HS : Hid (x = if s[k] < 33 ∨ 126 < s[k] then false else if s[k] = 40 then scan (n + 1) (s.data.toList.drop (k + 1)) else if s[k] = 41 then (if n = 0 then false else scan (n - 1) (s.data.toList.drop (k + 1))) else scan n (s.data.toList.drop (k + 1))) := hn.out.trans (scan_at hlt)
        have l33 : decide ((s[k].toNat : Int) < 33) = decide (s[k] < 33) := u8_lt (n := 33) (by omega)
        have l126 : decide ((126 : Int) < (s[k].toNat : Int)) = decide (126 < s[k]) := by
          rw [Bool.eq_iff_iff]
          simp only [decide_eq_true_eq, UInt8.lt_iff_toNat_lt]
          show (126 : Int) < _ ↔ 126 < _
          omega
        clear hn
        by_cases hc : s[k] < 33 ∨ 126 < s[k]
        · have HV : Hid (x = false) := HS.out.trans (if_pos hc)
          have tc : (s[k].toNat : Int) < 33 ∨ ¬ (s[k].toNat : Int) < 33 ∧ (126 : Int) < (s[k].toNat : Int) := by
            rcases hc with h | h
            · left; simpa [h] using l33
            · by_cases h' : (s[k].toNat : Int) < 33
              · exact .inl h'
              · right; exact ⟨h', by simpa [h] using l126⟩
          clear HS l33 l126 hc
          rcases tc with t | ⟨t, t'⟩
          all_goals
            go_wp2_with fail
            go_ret
            exact ⟨by rw [HV.out]; rfl, rfl⟩
        · have t33 : ¬ (s[k].toNat : Int) < 33 := by
            intro h
            rw [decide_eq_true h] at l33
            exact hc (.inl (of_decide_eq_true l33.symm))
          have t126 : ¬ (126 : Int) < (s[k].toNat : Int) := by
            intro h
            rw [decide_eq_true h] at l126
            exact hc (.inr (of_decide_eq_true l126.symm))
          have HS1 := Lib.hid (HS.out.trans (if_neg hc))
          clear HS l33 l126 hc
          have tn0 : ¬ (n : Int) < 0 := by omega
          have tn1 : ¬ (n : Int) + 1 < 0 := by omega
          by_cases h4 : s[k] = 40
          · obtain ⟨t4, _⟩ := u8_hit (n := 40) rfl h4
            have hne5 : s[k] ≠ 41 := by rw [h4]; decide
            obtain ⟨t5, _⟩ := u8_miss (n := 41) rfl hne5
            clear hne5
            have HV := Lib.hid (HS1.out.trans (if_pos h4))
            clear HS1 h4
            go_wp2_with fail
            go_round
            case rel => exact ⟨k + 1, n + 1, by omega, by omega, by go_num, by go_num, HV.out⟩
            case measure => simp [intOf]; omega
          · obtain ⟨t4, _⟩ := u8_miss (n := 40) rfl h4
            have HS2 := Lib.hid (HS1.out.trans (if_neg h4))
            clear HS1 h4
            by_cases h5 : s[k] = 41
            · obtain ⟨t5, _⟩ := u8_hit (n := 41) rfl h5
              have HS3 := Lib.hid (HS2.out.trans (if_pos h5))
              clear HS2 h5
              by_cases hn0 : n = 0
              · subst hn0
                have HV : Hid (x = false) := HS3.out.trans (if_pos rfl)
                clear HS3
                go_wp2_with fail
                go_ret
                exact ⟨by rw [HV.out]; rfl, rfl⟩
              · have HV := Lib.hid (HS3.out.trans (if_neg hn0))
                have hn1 : 1 ≤ n := by omega
                have tn2 : ¬ (n : Int) - 1 < 0 := by omega
                clear HS3 hn0
                go_wp2_with fail
                go_round
                case rel => exact ⟨k + 1, n - 1, by omega, by omega, by go_num, by congr 1; omega, HV.out⟩
                case measure => simp [intOf]; omega
            · obtain ⟨t5, _⟩ := u8_miss (n := 41) rfl h5
              have HV := Lib.hid (HS2.out.trans (if_neg h5))
              clear HS2 h5
              go_wp2_with fail
              go_round
              case rel => exact ⟨k + 1, n, by omega, by omega, by go_num, rfl, HV.out⟩
              case measure => simp [intOf]; omega
      · have HV : Hid (x = (n == 0)) := by
          show x = _
          rw [hn.out, List.drop_eq_nil_of_le (by rw [size_len]; omega)]
          rfl
        clear hn
        go_wp2_with fail
        go_ret
        refine ⟨ret_bool ?_, rfl⟩
        rw [HV.out, Bool.eq_iff_iff]
        simp <;> omega
end Go.Proofs.YtghbhajiddnmkaaDoor
namespace Go.Proofs.YtghbhajiddnmkaaDoor
set_option linter.unusedSimpArgs false
set_option linter.unusedVariables false
open Go.RowKit

theorem ext_mid (s : ByteArray) (m n : Nat) : (s.extract m n).data.toList = (s.data.toList.drop m).take (n - m) := by
  simp
theorem words_mid {l : Wd} {c : UInt8} {r : Wd} (h : l = c :: r) (h1 : c ≠ 32) (h2 : c ≠ 40) (h3 : c ≠ 41) : 1 ≤ scanEnd 0 l ∧ words l = l.take (scanEnd 0 l) :: words (l.drop (scanEnd 0 l)) := by
  have e1 : skipB l = l := by unfold skipB; rw [h, List.dropWhile_cons]; simp [h1]
  have e2 : endN l = scanEnd 0 l := by
    rw [h]
    show (if c = 40 ∨ c = 41 then 1 else scanEnd 0 (c :: r)) = _
    rw [if_neg (by simp [h2, h3])]
  have e3 : 1 ≤ endN l := by rw [h]; exact endN_pos c r h1
  refine ⟨by omega, ?_⟩
  have hne : (cutW l).1 ≠ [] := by
    unfold cutW
    simp only [e1, e2]
    rw [h]
    intro h0
    have := congrArg List.length h0
    rw [List.length_take, ← h] at this
    simp only [List.length_nil] at this
    have : l.length ≠ 0 := by rw [h]; simp
    omega
  rw [← stream_cut, stream_cons _ hne]
  unfold cutW
  simp only [e1, e2]
theorem drop_at {s : ByteArray} {i : Nat} (h : i < s.size) : s.data.toList.drop i = s[i] :: s.data.toList.drop (i + 1) := by
  have h1 := byte_at h
  rw [List.drop_eq_getElem_cons (by rw [size_len]; exact h)]
  rw [List.getElem?_eq_getElem (by rw [size_len]; exact h)] at h1
  injection h1 with h1
  rw [h1]
theorem scanEnd_at {s : ByteArray} {j o : Nat} (h : j < s.size) : scanEnd o (s.data.toList.drop j) = if s[j] = 32 then 0 else if s[j] = 41 ∧ o = 0 then 0 else 1 + scanEnd (if s[j] = 40 then o + 1 else if s[j] = 41 then o - 1 else o) (s.data.toList.drop (j + 1)) := by
  rw [drop_at h]
  rfl
/-- While the words are read: those ahead of place i are in the row. -/
structure WSt (w0 : World) (s : ByteArray) (wx : World) (v : Value) (ys : List ByteArray) (i : Nat) : Prop where
  below : Below w0.heap.size w0 wx
  own : wx.ownsRow w0.heap.size 9 1 v ys.length (ys.map Value.string)
  all : words s.data.toList = (ys.map fun y => y.data.toList) ++ words (s.data.toList.drop i)
  few : ys.length ≤ i
theorem WSt.own_alloc {w0 : World} {s : ByteArray} {wx : World} {v : Value} {ys : List ByteArray} {i : Nat} (h : WSt w0 s wx v ys i) (o : Obj) : (wx.alloc o).ownsRow w0.heap.size 9 1 v ys.length (ys.map Value.string) := h.own.alloc o
theorem WSt.next {w0 : World} {s : ByteArray} {wx w4 : World} {v v4 : Value} {ys : List ByteArray} {i j : Nat} {o : Obj} {x : ByteArray} (h : WSt w0 s wx v ys i) (hown : w4.ownsRow w0.heap.size 9 1 v4 (ys.length + 1) (ys.map Value.string ++ [.string x])) (hg : (wx.alloc o).grownBy w4 v.ownBlock)
    (hj : i < j) (hw : words (s.data.toList.drop i) = x.data.toList :: words (s.data.toList.drop j)) : WSt w0 s w4 v4 (ys ++ [x]) j := by
  refine ⟨?_, ?_, ?_, by have := h.few; simp; omega⟩
  · exact (h.below.alloc h.below.size _).grown hg (by have := h.below.size; simp; omega) (fun k hk => (h.own.lt k hk).1)
  · rw [List.length_append, List.map_append]; exact hown
  · rw [h.all, hw, List.map_append, List.append_assoc]; rfl
theorem WSt.skip {w0 : World} {s : ByteArray} {wx : World} {v : Value} {ys : List ByteArray} {i : Nat} (h : WSt w0 s wx v ys i) (hw : words (s.data.toList.drop i) = words (s.data.toList.drop (i + 1))) : WSt w0 s wx v ys (i + 1) :=
  ⟨h.below, h.own, h.all.trans (by rw [hw]), by have := h.few; omega⟩
theorem info_str : ∃ i, Tryd.prog.info? 9 = some i ∧ i.zero = some (.string ⟨#[]⟩) ∧ i.size = 1 ∧ i.bytes = 16 := by
  obtain ⟨i, h, h0, h1, h2⟩ := info_parts (show (Tryd.prog.info? 9).map (fun i => (i.zero, i.size, i.bytes)) = some (some (.string ⟨#[]⟩), 1, 16) by kernel_rfl)
  exact ⟨i, h, h0, h1, h2⟩
theorem par_end {s : ByteArray} {f j o : Nat} (hlt : f < s.size) (h1 : s[f] ≠ 32) (h2 : s[f] ≠ 40) (h3 : s[f] ≠ 41) (hj : f ≤ j) (h : scanEnd 0 (s.data.toList.drop f) = (j - f) + scanEnd o (s.data.toList.drop j)) (h0 : scanEnd o (s.data.toList.drop j) = 0) :
    f < j ∧ words (s.data.toList.drop f) = (s.extract f j).data.toList :: words (s.data.toList.drop j) := by
  obtain ⟨h4, h5⟩ := words_mid (drop_at hlt) h1 h2 h3
  rw [h0, Nat.add_zero] at h
  rw [h] at h4 h5
  refine ⟨by omega, ?_⟩
  rw [h5, ext_mid, List.drop_drop, show f + (j - f) = j by omega]
def WordsPost (s : ByteArray) (w0 : World) (e : Ending) (w' : World) : Prop := ∃ v ys, e = .returned v ∧ WSt w0 s w' v ys s.size
set_option maxHeartbeats 4000000 in
set_option maxRecDepth 100000 in
theorem refWords_any (s : ByteArray) (hs : s.size ≤ 4194304) (w0 : World) : Calls Tryd.prog 22 #[.string s] w0 (WordsPost s w0) := by
  obtain ⟨i0, hi0, hz0⟩ := info_str
  have hi := Lib.hid hi0
  have hz := Lib.hid hz0
  clear hi0 hz0
  have H0 : Hid (WSt w0 s w0 (.slice none 0 0) [] 0) := ⟨Below.refl _ _, World.ownsRow_nil _ _ _ _, rfl, Nat.le_refl _⟩
  go_enter Tryd.func22, Tryd.ntmps22
  go_wp2_with fail
  go_loopw [3, 4] (fun vo vi wx => ∃ (i : Nat) (ys : List ByteArray), i ≤ s.size ∧ vi = .int .i64 (i : Int) ∧ Hid (WSt w0 s wx vo ys i)) (fun _ vi _ => s.size - (intOf vi).toNat)
  case atStart => exact ⟨0, [], Nat.zero_le _, rfl, H0⟩
  case round =>
    clear H0
    obtain ⟨i, ys, hi1, rfl, HM⟩ := hrel
    obtain ⟨A, c, rfl, hc1, hc2⟩ := own_form' HM.out.own
    unfold maxLen at hc2
    have hfew := HM.out.few
    have hge := Lib.hid HM.out.below.size
    by_cases hlt : i < s.size
    · by_cases h32 : s[i] = 32
      · obtain ⟨t1, _⟩ := u8_hit (n := 32) rfl h32
        have HN : Hid (WSt w0 s wr (.slice A ys.length c) ys (i + 1)) := HM.out.skip (by rw [drop_at hlt, h32, words_blank])
        clear h32 HM
        go_wp2_with fail
        go_roundw
        case rel => exact ⟨i + 1, ys, by omega, by go_num, HN⟩
        case measure => simp [intOf]; omega
      obtain ⟨t1, _⟩ := u8_miss (n := 32) rfl h32
      by_cases h40 : s[i] = 40
      · obtain ⟨t2, _⟩ := u8_hit (n := 40) rfl h40
        have hx := Lib.hid (show words (s.data.toList.drop i) = (s.extract i (i + 1)).data.toList :: words (s.data.toList.drop (i + 1)) by rw [drop_at hlt, h40, words_open, ext_mid, drop_at hlt, h40]; simp)
        clear h32 h40
        go_wp2_with (at_builtin; refine wpList_append_own_at _ rfl (.tmp 27) (.tmp 33) 35 rfl w0.heap.size 9 i0 (.string ⟨#[]⟩) 1 16 Tryd.underlying35 hi.out hz.out.1 hz.out.2.1 hz.out.2.2 rfl (by decide) (.slice A ys.length c) ys.length (ys.map Value.string) rfl (WSt.own_alloc HM.out _) ⟨wr.heap.size, 0, none⟩ 1 1 [.string (s.extract i (i + 1))] rfl rfl (cell_one_new wr _ _) (by intro u hu; simp at hu; subst hu; rfl) (by unfold maxLen; omega) (by omega) (by have := hge.out; simp; omega) ?_; intro v4 w4 hown4 hg4 _ _; have HN : Hid (WSt w0 s w4 v4 (ys ++ [s.extract i (i + 1)]) (i + 1)) := WSt.next HM.out hown4 hg4 (by omega) hx.out; clear hown4 hg4)
        go_roundw
        case rel => exact ⟨i + 1, _, by omega, by go_num, HN⟩
        case measure => simp [intOf]; omega
      obtain ⟨t2, _⟩ := u8_miss (n := 40) rfl h40
      by_cases h41 : s[i] = 41
      · obtain ⟨t3, _⟩ := u8_hit (n := 41) rfl h41
        have hx := Lib.hid (show words (s.data.toList.drop i) = (s.extract i (i + 1)).data.toList :: words (s.data.toList.drop (i + 1)) by rw [drop_at hlt, h41, words_close, ext_mid, drop_at hlt, h41]; simp)
        clear h32 h40 h41
        go_wp2_with (at_builtin; refine wpList_append_own_at _ rfl (.tmp 27) (.tmp 33) 35 rfl w0.heap.size 9 i0 (.string ⟨#[]⟩) 1 16 Tryd.underlying35 hi.out hz.out.1 hz.out.2.1 hz.out.2.2 rfl (by decide) (.slice A ys.length c) ys.length (ys.map Value.string) rfl (WSt.own_alloc HM.out _) ⟨wr.heap.size, 0, none⟩ 1 1 [.string (s.extract i (i + 1))] rfl rfl (cell_one_new wr _ _) (by intro u hu; simp at hu; subst hu; rfl) (by unfold maxLen; omega) (by omega) (by have := hge.out; simp; omega) ?_; intro v4 w4 hown4 hg4 _ _; have HN : Hid (WSt w0 s w4 v4 (ys ++ [s.extract i (i + 1)]) (i + 1)) := WSt.next HM.out hown4 hg4 (by omega) hx.out; clear hown4 hg4)
        go_roundw
        case rel => exact ⟨i + 1, _, by omega, by go_num, HN⟩
        case measure => simp [intOf]; omega
      obtain ⟨t3, _⟩ := u8_miss (n := 41) rfl h41
      have HP := Lib.hid (fun j o hj h h0 => par_end (j := j) (o := o) hlt h32 h40 h41 hj h h0)
      clear h32 h40 h41
      go_wp2_with fail
      go_loop [4, 6] (fun vj vo => ∃ j o : Nat, i ≤ j ∧ j ≤ s.size ∧ o ≤ j ∧ vj = .int .i64 (j : Int) ∧ vo = .int .i64 (o : Int) ∧ Hid (scanEnd 0 (s.data.toList.drop i) = (j - i) + scanEnd o (s.data.toList.drop j))) (fun vj _ => s.size - (intOf vj).toNat)
      case atStart => exact ⟨i, 0, Nat.le_refl _, by omega, by omega, rfl, rfl, by show _ = _; simp⟩
      case round =>
        obtain ⟨j, o, hij, hj, hoj, rfl, rfl, hn⟩ := hrel
        clear t1 t2 t3
        by_cases hlt2 : j < s.size
        · have HSc := Lib.hid (scanEnd_at (o := o) hlt2)
          by_cases g32 : s[j] = 32
          · obtain ⟨t4, _⟩ := u8_hit (n := 32) rfl g32
            obtain ⟨hfj, hw⟩ := HP.out j o hij hn.out (by rw [HSc.out, if_pos g32])
            have hx := Lib.hid hw
            clear hw hn HP g32 HSc
            go_wp2_with (at_builtin; refine wpList_append_own_at _ rfl (.tmp 70) (.tmp 75) 35 rfl w0.heap.size 9 i0 (.string ⟨#[]⟩) 1 16 Tryd.underlying35 hi.out hz.out.1 hz.out.2.1 hz.out.2.2 rfl (by decide) (.slice A ys.length c) ys.length (ys.map Value.string) rfl (WSt.own_alloc HM.out _) ⟨wr.heap.size, 0, none⟩ 1 1 [.string (s.extract i j)] rfl rfl (cell_one_new wr _ _) (by intro u hu; simp at hu; subst hu; rfl) (by unfold maxLen; omega) (by omega) (by have := hge.out; simp; omega) ?_; intro v4 w4 hown4 hg4 _ _; have HN : Hid (WSt w0 s w4 v4 (ys ++ [s.extract i j]) j) := WSt.next HM.out hown4 hg4 hfj hx.out; clear hown4 hg4)
            go_roundw
            case rel => exact ⟨j, _, by omega, rfl, HN⟩
            case measure => simp [intOf]; omega
          · obtain ⟨t4, _⟩ := u8_miss (n := 32) rfl g32
            by_cases g41 : s[j] = 41
            · obtain ⟨t5, _⟩ := u8_hit (n := 41) rfl g41
              have g40 : s[j] ≠ 40 := by rw [g41]; decide
              obtain ⟨t6, _⟩ := u8_miss (n := 40) rfl g40
              by_cases go0 : o = 0
              · have HZ := Lib.hid (show scanEnd o (s.data.toList.drop j) = 0 by rw [HSc.out, if_neg g32, if_pos ⟨g41, go0⟩])
                clear g32 g41 g40 HSc
                obtain ⟨hfj, hw⟩ := HP.out j o hij hn.out HZ.out
                have hx := Lib.hid hw
                subst go0
                clear hw hn HP HZ
                go_wp2_with (at_builtin; refine wpList_append_own_at _ rfl (.tmp 70) (.tmp 75) 35 rfl w0.heap.size 9 i0 (.string ⟨#[]⟩) 1 16 Tryd.underlying35 hi.out hz.out.1 hz.out.2.1 hz.out.2.2 rfl (by decide) (.slice A ys.length c) ys.length (ys.map Value.string) rfl (WSt.own_alloc HM.out _) ⟨wr.heap.size, 0, none⟩ 1 1 [.string (s.extract i j)] rfl rfl (cell_one_new wr _ _) (by intro u hu; simp at hu; subst hu; rfl) (by unfold maxLen; omega) (by omega) (by have := hge.out; simp; omega) ?_; intro v4 w4 hown4 hg4 _ _; have HN : Hid (WSt w0 s w4 v4 (ys ++ [s.extract i j]) j) := WSt.next HM.out hown4 hg4 hfj hx.out; clear hown4 hg4)
                go_roundw
                case rel => exact ⟨j, _, by omega, rfl, HN⟩
                case measure => simp [intOf]; omega
              · have HZ : Hid (scanEnd 0 (s.data.toList.drop i) = (j + 1 - i) + scanEnd (o - 1) (s.data.toList.drop (j + 1))) := by
                  show _ = _
                  rw [hn.out, HSc.out, if_neg g32, if_neg (fun h => go0 h.2), if_neg g40, if_pos g41]
                  omega
                have tn : ((o : Int) == 0) = false := beq_eq_false_iff_ne.2 (by omega)
                have tn1 : 1 ≤ o := by omega
                clear g32 g41 g40 HSc go0 hn HP
                go_wp2_with fail
                go_round
                case rel => exact ⟨j + 1, o - 1, by omega, by omega, by omega, by go_num, by congr 1; omega, HZ⟩
                case measure => simp [intOf]; omega
            · obtain ⟨t5, _⟩ := u8_miss (n := 41) rfl g41
              by_cases g40 : s[j] = 40
              · obtain ⟨t6, _⟩ := u8_hit (n := 40) rfl g40
                have HZ : Hid (scanEnd 0 (s.data.toList.drop i) = (j + 1 - i) + scanEnd (o + 1) (s.data.toList.drop (j + 1))) := by
                  show _ = _
                  rw [hn.out, HSc.out, if_neg g32, if_neg (fun h => g41 h.1), if_pos g40]
                  omega
                clear g32 g41 g40 HSc hn HP
                go_wp2_with fail
                go_round
                case rel => exact ⟨j + 1, o + 1, by omega, by omega, by omega, by go_num, by go_num, HZ⟩
                case measure => simp [intOf]; omega
              · obtain ⟨t6, _⟩ := u8_miss (n := 40) rfl g40
                have HZ : Hid (scanEnd 0 (s.data.toList.drop i) = (j + 1 - i) + scanEnd o (s.data.toList.drop (j + 1))) := by
                  show _ = _
                  rw [hn.out, HSc.out, if_neg g32, if_neg (fun h => g41 h.1), if_neg g40, if_neg g41]
                  omega
                clear g32 g41 g40 HSc hn HP
                go_wp2_with fail
                go_round
                case rel => exact ⟨j + 1, o, by omega, by omega, by omega, by go_num, rfl, HZ⟩
                case measure => simp [intOf]; omega
        · have hjs : j = s.size := by omega
          have HZ := Lib.hid (show scanEnd o (s.data.toList.drop j) = 0 by rw [List.drop_eq_nil_of_le (by rw [size_len]; omega)]; rfl)
          obtain ⟨hfj, hw⟩ := HP.out j o hij hn.out HZ.out
          have hx := Lib.hid hw
          clear hw hn HP HZ hjs
          go_wp2_with (at_builtin; refine wpList_append_own_at _ rfl (.tmp 70) (.tmp 75) 35 rfl w0.heap.size 9 i0 (.string ⟨#[]⟩) 1 16 Tryd.underlying35 hi.out hz.out.1 hz.out.2.1 hz.out.2.2 rfl (by decide) (.slice A ys.length c) ys.length (ys.map Value.string) rfl (WSt.own_alloc HM.out _) ⟨wr.heap.size, 0, none⟩ 1 1 [.string (s.extract i j)] rfl rfl (cell_one_new wr _ _) (by intro u hu; simp at hu; subst hu; rfl) (by unfold maxLen; omega) (by omega) (by have := hge.out; simp; omega) ?_; intro v4 w4 hown4 hg4 _ _; have HN : Hid (WSt w0 s w4 v4 (ys ++ [s.extract i j]) j) := WSt.next HM.out hown4 hg4 hfj hx.out; clear hown4 hg4)
          go_roundw
          case rel => exact ⟨j, _, by omega, rfl, HN⟩
          case measure => simp [intOf]; omega
    · go_wp2_with fail
      go_ret
      have e : i = s.size := by omega
      subst e
      exact ⟨_, ys, rfl, HM.out⟩
end Go.Proofs.YtghbhajiddnmkaaDoor
