/- The reference's Fits; what fits is one in both. -/
import Derived.Test.YthgagobdkcikiaaDoorRefG
import Derived.Test.YthgagobdkcikiaaDoorGlob
namespace Go.Proofs.YthgagobdkcikiaaDoor
set_option linter.unusedSimpArgs false
set_option linter.unusedVariables false
open Go.RowKit

/-! Beginnings and places. -/
theorem has_prefix {t p : List UInt8} : Lib.hasPrefix t p = true ↔ p.length ≤ t.length ∧ t.take p.length = p := by
  unfold Lib.hasPrefix
  rw [List.isPrefixOf_iff_prefix]
  constructor
  · rintro ⟨r, rfl⟩
    exact ⟨by simp, by simp⟩
  · rintro ⟨h1, h2⟩
    exact ⟨t.drop p.length, by
      have h3 := List.take_append_drop p.length t
      rwa [h2] at h3⟩
theorem occ_at {t p : List UInt8} {j : Nat} : Lib.occAt t p j = true ↔ j + p.length ≤ t.length + (if p = [] then j else 0) ∧ (t.take (j + p.length)).drop j = p := by
  unfold Lib.occAt
  have h := @has_prefix (t.drop j) p
  unfold Lib.hasPrefix at h
  rw [h, List.length_drop, List.drop_take, show j + p.length - j = p.length by omega]
  by_cases hp : p = []
  · subst hp; simp
  · have : 0 < p.length := List.length_pos_iff.2 hp
    simp only [hp, if_false]
    constructor
    · rintro ⟨h1, h2⟩; exact ⟨by omega, h2⟩
    · rintro ⟨h1, h2⟩; exact ⟨by omega, h2⟩
theorem contains_iff {t p : List UInt8} : Lib.contains t p = true ↔ ∃ j, j + p.length ≤ t.length ∧ (t.take (j + p.length)).drop j = p := by
  unfold Lib.contains
  rw [decide_eq_true_eq]
  rcases Lib.index_spec t p with ⟨h1, h2⟩ | ⟨i, h1, h2, h3, _⟩
  · constructor
    · intro h; omega
    · rintro ⟨j, h3, h4⟩
      have := h2 j (by omega)
      rw [occ_at.2 ⟨by omega, h4⟩] at this
      cases this
  · constructor
    · intro _
      have := occ_at.1 h3
      refine ⟨i, ?_, this.2⟩
      by_cases hp : p = []
      · subst hp; simpa using h2
      · simpa [hp] using this.1
    · intro _; omega
theorem contains_no {t p : List UInt8} (h : ∀ j, j + p.length ≤ t.length → (t.take (j + p.length)).drop j ≠ p) : Lib.contains t p = false := by
  rw [Bool.eq_false_iff]
  intro hc
  obtain ⟨j, h1, h2⟩ := contains_iff.1 hc
  exact h j h1 h2
set_option maxHeartbeats 4000000 in
set_option maxRecDepth 100000 in
theorem refFits_any (how : Int) (p s : ByteArray) (hp : p.size ≤ 1048576) (hs : s.size ≤ 1048576) (w : World) :
    Calls Tryd.prog 10 #[.int .i64 how, .string p, .string s] w fun e w' => e = .returned (.bool (fitsB how p s)) ∧ Below w.heap.size w w' := by
  have C4 := Lib.hid (refGlob_any p s hp hs w)
  obtain ⟨ans, hans⟩ : ∃ ans, ans = fitsB how p s := ⟨_, rfl⟩
  rw [← hans]
  have HV := Lib.hid hans
  clear hans
  unfold fitsB at HV
  by_cases h1 : how = 1
  · subst h1
    have HR : Hid (ans = (p.toList == s.toList)) := HV.out.trans (by rw [str_beq, if_pos rfl]; exact decide_eq_decide.2 eq_comm)
    clear HV C4
    generalize hx : (p.toList == s.toList) = x at HR
    go_enter Tryd.func10, Tryd.ntmps10
    go_wp2_with fail
    go_ret
    exact ⟨by rw [HR.out, ← hx]; rfl, Below.refl _ _⟩
  by_cases h2 : how = 2
  · subst h2
    by_cases hlen : p.size ≤ s.size
    · have hl' : (p.size : Int) ≤ (s.size : Int) := by omega
      have HR : Hid (ans = ((s.extract 0 p.size).toList == p.toList)) := HV.out.trans (by
        show Lib.hasPrefix s.data.toList p.data.toList = _
        rw [str_beq, bl_upto, Bool.eq_iff_iff, has_prefix, decide_eq_true_eq, size_len, size_len]
        exact ⟨fun h => h.2, fun h => ⟨hlen, h⟩⟩)
      clear HV C4 h1
      generalize hx : ((s.extract 0 p.size).toList == p.toList) = x at HR
      go_enter Tryd.func10, Tryd.ntmps10
      go_wp2_with fail
      go_ret
      exact ⟨by rw [HR.out, ← hx]; rfl, Below.refl _ _⟩
    · have hl' : ¬ (p.size : Int) ≤ (s.size : Int) := by omega
      have HR : Hid (ans = false) := HV.out.trans (by
        show Lib.hasPrefix s.data.toList p.data.toList = _
        rw [Bool.eq_false_iff]
        intro h
        have := (has_prefix.1 h).1
        rw [size_len, size_len] at this
        exact hlen this)
      clear HV C4 h1
      go_enter Tryd.func10, Tryd.ntmps10
      go_wp2_with fail
      go_ret
      exact ⟨by rw [HR.out]; rfl, Below.refl _ _⟩
  by_cases h3 : how = 3
  · subst h3
    have HR : Hid (ans = Lib.contains s.data.toList p.data.toList) := HV.out.trans (by rfl)
    clear HV C4 h1 h2
    go_enter Tryd.func10, Tryd.ntmps10
    go_wp2_with fail
    go_loop [7] (fun v => ∃ i : Nat, v = .int .i64 (i : Int) ∧ i ≤ s.size + 1 ∧ Hid (∀ j, j < i → j + p.size ≤ s.size → (s.data.toList.take (j + p.size)).drop j ≠ p.data.toList)) (fun v => s.size + 1 - (intOf v).toNat)
    case atStart => exact ⟨0, rfl, Nat.zero_le _, fun j hj => by omega⟩
    case round =>
      obtain ⟨i, rfl, hi, hall⟩ := hrel
      by_cases hlt : i + p.size ≤ s.size
      · obtain ⟨m, hm⟩ : ∃ m : Nat, i + p.size = m := ⟨_, rfl⟩
        have him : (i : Int) + (p.size : Int) = (m : Int) := by omega
        have hms : m ≤ s.size := by omega
        have hms' : (m : Int) ≤ (s.size : Int) := by omega
        have hil : i ≤ m := by omega
        have hil' : (i : Int) ≤ (m : Int) := by omega
        have HBM : Hid ((s.extract i m).data.toList = (s.data.toList.take (i + p.size)).drop i) := by rw [hm]; exact bl_mid s i m
        have HMM := Lib.hid hm
        clear hm
        by_cases heq : (s.extract i m).data.toList = p.data.toList
        · have t1 : ((s.extract i m).toList == p.toList) = true := by rw [str_beq]; simpa using heq
          have HV2 : Hid (ans = true) := HR.out.trans (contains_iff.2 ⟨i, by rw [size_len, size_len]; exact hlt, by rw [size_len, ← HBM.out]; exact heq⟩)
          clear hall heq HR
          go_wp2_with fail
          go_ret
          exact ⟨by rw [HV2.out]; rfl, Below.refl _ _⟩
        · have t1 : ((s.extract i m).toList == p.toList) = false := by rw [str_beq]; simpa using heq
          have HALL : Hid (∀ j, j < i + 1 → j + p.size ≤ s.size → (s.data.toList.take (j + p.size)).drop j ≠ p.data.toList) := fun j hj h2 => by
            by_cases hji : j = i
            · subst hji; rw [← HBM.out]; exact heq
            · exact hall.out j (by omega) h2
          clear hall heq
          go_wp2_with fail
          go_round
          case rel => exact ⟨i + 1, by go_num, by omega, HALL⟩
          case measure => simp [intOf]; omega
      · have hlt' : ¬ (i : Int) + (p.size : Int) ≤ (s.size : Int) := by omega
        have HV2 : Hid (ans = false) := HR.out.trans (contains_no fun j h1 => by
          rw [size_len, size_len] at h1
          rw [size_len]
          exact hall.out j (by omega) h1)
        clear hall HR
        go_wp2_with fail
        go_ret
        exact ⟨by rw [HV2.out]; rfl, Below.refl _ _⟩
  by_cases h4 : how = 4
  · subst h4
    have HR : Hid (ans = gm p.data.toList s.data.toList) := HV.out.trans (by rfl)
    clear HV h1 h2 h3
    generalize gm p.data.toList s.data.toList = x at *
    go_enter Tryd.func10, Tryd.ntmps10
    go_wp2_with fail
    refine C4.out.mono ?_
    rintro e w1 ⟨rfl, hb⟩
    have HB := Lib.hid hb
    clear hb
    go_wp2_with fail
    go_ret
    exact ⟨by rw [HR.out]; rfl, HB.out⟩
  have HR : Hid (ans = false) := HV.out.trans (by rw [if_neg h1, if_neg h2, if_neg h3, if_neg h4])
  have q1 : (how == 1) = false := by simpa using h1
  have q2 : (how == 2) = false := by simpa using h2
  have q3 : (how == 3) = false := by simpa using h3
  have q4 : (how == 4) = false := by simpa using h4
  clear HV C4
  go_enter Tryd.func10, Tryd.ntmps10
  go_wp2_with fail
  go_ret
  exact ⟨by rw [HR.out]; rfl, Below.refl _ _⟩
end Go.Proofs.YthgagobdkcikiaaDoor
