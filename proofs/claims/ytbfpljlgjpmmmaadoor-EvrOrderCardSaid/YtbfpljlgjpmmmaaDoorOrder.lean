/- The walk of EvrOrder. -/
import Derived.Test.YtbfpljlgjpmmmaaDoorAwake
import Derived.BigGuardPart
namespace Go.Proofs.YtbfpljlgjpmmmaaDoor
set_option linter.unusedSimpArgs false
set_option linter.unusedVariables false
open Go.RowKit

/-- What an order's three answers may be. -/
theorem ord_three {α : Type} {c : α → α → Int} (h : Ordr c) (p q r : α) :
    (c p q = 0 ∧ c p r = c q r) ∨ (c p q = 1 ∧ c q r = 0 ∧ c p r = 1) ∨ (c p q = -1 ∧ c q r = 0 ∧ c p r = -1) ∨ (c p q = 1 ∧ c q r = 1 ∧ c p r = 1) ∨ (c p q = -1 ∧ c q r = -1 ∧ c p r = -1) ∨ (c p q = 1 ∧ c q r = -1) ∨ (c p q = -1 ∧ c q r = 1) := by
  have r1 := h.range p q
  have r2 := h.range q r
  have r3 := h.range p r
  have t1 := h.trans p q r
  have t2 := h.trans' p q r
  rcases r1 with e | e | e
  · rcases r2 with f | f | f
    · have := t1 (by omega) (by omega)
      have s1 := h.trans r p q
      have a1 := h.anti p r
      have a2 := h.anti q r
      right; right; right; right; left
      refine ⟨e, f, ?_⟩
      rcases r3 with g | g | g
      · exact g
      · have := h.same' g q
        have := h.anti p q
        omega
      · omega
    · right; right; left
      exact ⟨e, f, by rw [← h.same' f p]; exact e⟩
    · right; right; right; right; right; right; exact ⟨e, f⟩
  · left; exact ⟨e, h.same e r⟩
  · rcases r2 with f | f | f
    · right; right; right; right; right; left; exact ⟨e, f⟩
    · right; left
      exact ⟨e, f, by rw [← h.same' f p]; exact e⟩
    · right; right; right; left
      refine ⟨e, f, ?_⟩
      have := t2 (by omega) (by omega)
      rcases r3 with g | g | g
      · omega
      · have := h.same' g q
        have := h.anti p q
        have := h.anti q r
        omega
      · exact g

set_option maxHeartbeats 8000000 in
set_option maxRecDepth 1000000 in
theorem evrOrder_walk {H : Type} {enc : TypeId × Value → H} (W : World) {v0 v1 v2 v3 : Value} {d0 d1 d2 d3 : DataW H} (h0 : In enc Tryd.prog W 3 v0 d0) (h1 : In enc Tryd.prog W 9 v1 d1) (h2 : In enc Tryd.prog W 9 v2 d2) (h3 : In enc Tryd.prog W 9 v3 d3)
    (hL : laidMetH Tryd.prog Rows.evrOrderRow.laid W) (hsz : (DataW.weightsEach Tryd.prog [3, 9, 9, 9] [d0, d1, d2, d3]).all (· ≤ reachBytes) = true) :
    Calls Tryd.prog 7 #[v0, v1, v2, v3] W (TrueBelow W) := by
  obtain ⟨kind, rfl, _, _⟩ := h0.int Tryd.underlying3
  obtain ⟨a, rfl, _, _⟩ := h1.string Tryd.underlying9
  obtain ⟨b, rfl, _, _⟩ := h2.string Tryd.underlying9
  obtain ⟨c, rfl, _, _⟩ := h3.string Tryd.underlying9
  clear h0 h1 h2 h3 hL hsz
  have C1 := Lib.hid (fun w => compare_any kind a b w)
  have C2 := Lib.hid (fun w => compare_any kind b c w)
  have C3 := Lib.hid (fun w => compare_any kind a c w)
  have C4 := Lib.hid (fun w => compare_any kind a a w)
  have C5 := Lib.hid (fun w => compare_any kind b a w)
  by_cases z1 : bothErr kind (parse a.data.toList) (parse b.data.toList) = 0
  · by_cases z2 : bothErr kind (parse b.data.toList) (parse c.data.toList) = 0
    · obtain ⟨hk, p, q, hp, hq⟩ := both_zero z1
      obtain ⟨_, _, r, _, hr⟩ := both_zero z2
      rw [hp, hq] at C1 z1
      rw [hq, hr] at C2 z2
      rw [hp, hr] at C3
      rw [hp] at C4
      rw [hq, hp] at C5
      have z3 : ∀ x y : Parts, bothErr kind (some x) (some y) = 0 := fun x y => by unfold bothErr; rw [if_pos hk]; rfl
      have o3 : ∀ x y : Parts, cmpO kind (some x) (some y) = cmpEvr kind x y := fun x y => by
        show (if kindB kind = true then cmpEvr kind x y else 0) = _
        rw [if_pos hk]
      rw [z3, o3] at C1 C2 C3 C4 C5
      have K := ord_three (ordEvr kind) p q r
      have R3 := (ordEvr kind).range p r
      rw [(ordEvr kind).self p] at C4
      rw [(ordEvr kind).anti p q] at C5
      have R2 := (ordEvr kind).range q r
      generalize cmpEvr kind p q = x at *
      generalize cmpEvr kind q r = y at *
      generalize cmpEvr kind p r = z at *
      have KX := Lib.hid (And.intro K (And.intro R2 R3))
      clear hp hq hr hk z1 z2 z3 o3 R2 R3 K
      go_enter Tryd.func7, Tryd.ntmps7
      go_wp2_with fail
      refine (awake_any _).mono ?_
      rintro e w1 ⟨rfl, hb1⟩
      have HB1 := Lib.hid hb1
      have hz1 := hb1.size
      clear hb1
      go_wp2_with fail
      refine (C1.out _).mono ?_
      rintro e w2 ⟨rfl, hb2⟩
      have HB2 := Lib.hid (HB1.out.trans (hb2.mono hz1))
      have hz2 := HB2.out.size
      clear hb2
      go_wp2_with fail
      refine (C2.out _).mono ?_
      rintro e w3 ⟨rfl, hb3⟩
      have HB3 := Lib.hid (HB2.out.trans (hb3.mono hz2))
      have hz3 := HB3.out.size
      clear hb3
      go_wp2_with fail
      refine (C3.out _).mono ?_
      rintro e w4 ⟨rfl, hb4⟩
      have HB4 := Lib.hid (HB3.out.trans (hb4.mono hz3))
      have hz4 := HB4.out.size
      clear hb4
      go_wp2_with fail
      refine (C4.out _).mono ?_
      rintro e w5 ⟨rfl, hb5⟩
      have HB5 := Lib.hid (HB4.out.trans (hb5.mono hz4))
      have hz5 := HB5.out.size
      clear hb5
      go_wp2_with fail
      refine (C5.out _).mono ?_
      rintro e w6 ⟨rfl, hb6⟩
      have HB6 := Lib.hid (HB5.out.trans (hb6.mono hz5))
      clear hb6 C1 C2 C3 C4 C5 HB1 HB2 HB3 HB4 HB5 hz1 hz2 hz3 hz4 hz5
      obtain ⟨K, R2, R3⟩ := KX.out
      clear KX
      rcases K with ⟨rfl, rfl⟩ | ⟨rfl, rfl, rfl⟩ | ⟨rfl, rfl, rfl⟩ | ⟨rfl, rfl, rfl⟩ | ⟨rfl, rfl, rfl⟩ | ⟨rfl, rfl⟩ | ⟨rfl, rfl⟩
      · rcases R3 with rfl | rfl | rfl
        all_goals
          clear R2
          go_wp2_with fail
          go_ret
          exact ⟨rfl, HB6.out⟩
      · clear R2 R3
        go_wp2_with fail
        go_ret
        exact ⟨rfl, HB6.out⟩
      · clear R2 R3
        go_wp2_with fail
        go_ret
        exact ⟨rfl, HB6.out⟩
      · clear R2 R3
        go_wp2_with fail
        go_ret
        exact ⟨rfl, HB6.out⟩
      · clear R2 R3
        go_wp2_with fail
        go_ret
        exact ⟨rfl, HB6.out⟩
      · clear R2
        rcases R3 with rfl | rfl | rfl
        all_goals
          go_wp2_with fail
          go_ret
          exact ⟨rfl, HB6.out⟩
      · clear R2
        rcases R3 with rfl | rfl | rfl
        all_goals
          go_wp2_with fail
          go_ret
          exact ⟨rfl, HB6.out⟩
    · skip
      generalize cmpO kind (parse a.data.toList) (parse b.data.toList) = x1 at *
      generalize cmpO kind (parse b.data.toList) (parse c.data.toList) = x2 at *
      generalize cmpO kind (parse a.data.toList) (parse c.data.toList) = x3 at *
      generalize bothErr kind (parse a.data.toList) (parse b.data.toList) = y1 at *
      generalize bothErr kind (parse b.data.toList) (parse c.data.toList) = y2 at *
      generalize bothErr kind (parse a.data.toList) (parse c.data.toList) = y3 at *
      have t1 : (y2 == 0) = false := by simpa using z2
      have t2 : (y2 != 0) = true := by simpa using z2
      subst z1
      clear z2 C4 C5
      go_enter Tryd.func7, Tryd.ntmps7
      go_wp2_with fail
      refine (awake_any _).mono ?_
      rintro e w1 ⟨rfl, hb1⟩
      have HB1 := Lib.hid hb1
      have hz1 := hb1.size
      clear hb1
      go_wp2_with fail
      refine (C1.out _).mono ?_
      rintro e w2 ⟨rfl, hb2⟩
      have HB2 := Lib.hid (HB1.out.trans (hb2.mono hz1))
      have hz2 := HB2.out.size
      clear hb2
      go_wp2_with fail
      refine (C2.out _).mono ?_
      rintro e w3 ⟨rfl, hb3⟩
      have HB3 := Lib.hid (HB2.out.trans (hb3.mono hz2))
      have hz3 := HB3.out.size
      clear hb3
      go_wp2_with fail
      refine (C3.out _).mono ?_
      rintro e w4 ⟨rfl, hb4⟩
      have HB4 := Lib.hid (HB3.out.trans (hb4.mono hz3))
      clear hb4
      go_wp2_with fail
      go_ret
      exact ⟨rfl, HB4.out⟩
  · skip
    generalize cmpO kind (parse a.data.toList) (parse b.data.toList) = x1 at *
    generalize cmpO kind (parse b.data.toList) (parse c.data.toList) = x2 at *
    generalize cmpO kind (parse a.data.toList) (parse c.data.toList) = x3 at *
    generalize bothErr kind (parse a.data.toList) (parse b.data.toList) = y1 at *
    generalize bothErr kind (parse b.data.toList) (parse c.data.toList) = y2 at *
    generalize bothErr kind (parse a.data.toList) (parse c.data.toList) = y3 at *
    have t1 : (y1 == 0) = false := by simpa using z1
    have t2 : (y1 != 0) = true := by simpa using z1
    clear z1 C4 C5
    go_enter Tryd.func7, Tryd.ntmps7
    go_wp2_with fail
    refine (awake_any _).mono ?_
    rintro e w1 ⟨rfl, hb1⟩
    have HB1 := Lib.hid hb1
    have hz1 := hb1.size
    clear hb1
    go_wp2_with fail
    refine (C1.out _).mono ?_
    rintro e w2 ⟨rfl, hb2⟩
    have HB2 := Lib.hid (HB1.out.trans (hb2.mono hz1))
    have hz2 := HB2.out.size
    clear hb2
    go_wp2_with fail
    refine (C2.out _).mono ?_
    rintro e w3 ⟨rfl, hb3⟩
    have HB3 := Lib.hid (HB2.out.trans (hb3.mono hz2))
    have hz3 := HB3.out.size
    clear hb3
    go_wp2_with fail
    refine (C3.out _).mono ?_
    rintro e w4 ⟨rfl, hb4⟩
    have HB4 := Lib.hid (HB3.out.trans (hb4.mono hz3))
    clear hb4
    go_wp2_with fail
    go_ret
    exact ⟨rfl, HB4.out⟩
end Go.Proofs.YtbfpljlgjpmmmaaDoor
