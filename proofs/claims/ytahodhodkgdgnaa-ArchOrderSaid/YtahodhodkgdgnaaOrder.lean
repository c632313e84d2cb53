/- The walk of ArchOrder. -/
import Derived.Test.YtahodhodkgdgnaaScores
namespace Go.Proofs.Ytahodhodkgdgnaa
set_option linter.unusedSimpArgs false
set_option linter.unusedVariables false
open Go.RowKit

set_option maxHeartbeats 4000000 in
set_option maxRecDepth 1000000 in
theorem archOrder_walk {H : Type} {enc : TypeId × Value → H} (W : World) {v0 v1 v2 v3 : Value} {d0 d1 d2 d3 : DataW H} (h0 : In enc Try.prog W 9 v0 d0) (h1 : In enc Try.prog W 9 v1 d1) (h2 : In enc Try.prog W 9 v2 d2) (h3 : In enc Try.prog W 9 v3 d3)
    (hsz : (DataW.weightsEach Try.prog [9, 9, 9, 9] [d0, d1, d2, d3]).all (· ≤ reachBytes) = true) :
    Calls Try.prog 5 #[v0, v1, v2, v3] W (TrueBelow W) := by
  obtain ⟨s, rfl, rfl, hs⟩ := h0.string Try.underlying9
  obtain ⟨a, rfl, _, ha⟩ := h1.string Try.underlying9
  obtain ⟨b, rfl, _, hb⟩ := h2.string Try.underlying9
  obtain ⟨c, rfl, _, hc⟩ := h3.string Try.underlying9
  have CP := Lib.hid (fun w => parse_any s hs w)
  have HA := Lib.hid ha
  have HB := Lib.hid hb
  have HC := Lib.hid hc
  clear h0 h1 h2 h3 hsz hs ha hb hc
  generalize parseT s.data.toList = r at *
  cases r with
  | none =>
    go_enter Try.func5, Try.ntmps5
    go_wp2_with fail
    refine (awake_any _).mono ?_
    rintro e w1 ⟨rfl, hb1⟩
    have B1 := Lib.hid hb1
    clear hb1
    go_wp2_with fail
    refine (CP.out _).mono ?_
    rintro e w2 ⟨hb2, ⟨_, rfl⟩ | ⟨T, bt, hT, _⟩⟩
    case inr => cases hT
    have B2 := Lib.hid (B1.out.trans (hb2.mono B1.out.size))
    clear hb2
    go_wp2_with fail
    go_ret
    exact ⟨rfl, B2.out⟩
  | some T =>
    have HX : Hid (∀ w bt, Tab w bt T → betterT T noarch a.data.toList ≤ 0 ∧ scoreT T noarch = 1) := fun w bt h => ⟨better_noarch T _ h.1, h.1.noarch⟩
    have X1 := Lib.hid (better_anti T a.data.toList b.data.toList)
    have X2 := Lib.hid (better_self T a.data.toList)
    have f1 := better_trans T a.data.toList b.data.toList c.data.toList
    have f2 := better_trans' T a.data.toList b.data.toList c.data.toList
    have f3 := better_last T a.data.toList b.data.toList
    have C : Hid (∀ w bt, Tab w bt T → Calls Try.prog 13 #[.pointer (some ⟨bt, 0, none⟩), .string a, .string b] w (fun e w' => e = .returned (.int .i64 (betterT T a.data.toList b.data.toList)) ∧ w = w') ∧
        Calls Try.prog 13 #[.pointer (some ⟨bt, 0, none⟩), .string b, .string c] w (fun e w' => e = .returned (.int .i64 (betterT T b.data.toList c.data.toList)) ∧ w = w') ∧
        Calls Try.prog 13 #[.pointer (some ⟨bt, 0, none⟩), .string a, .string c] w (fun e w' => e = .returned (.int .i64 (betterT T a.data.toList c.data.toList)) ∧ w = w') ∧
        Calls Try.prog 13 #[.pointer (some ⟨bt, 0, none⟩), .string a, .string a] w (fun e w' => e = .returned (.int .i64 0) ∧ w = w') ∧
        Calls Try.prog 13 #[.pointer (some ⟨bt, 0, none⟩), .string b, .string a] w (fun e w' => e = .returned (.int .i64 (- betterT T a.data.toList b.data.toList)) ∧ w = w') ∧
        Calls Try.prog 11 #[.pointer (some ⟨bt, 0, none⟩), .string a] w (fun e w' => e = .returned (.int .i64 (scoreT T a.data.toList)) ∧ w = w') ∧
        Calls Try.prog 11 #[.pointer (some ⟨bt, 0, none⟩), .string ⟨#[110, 111, 97, 114, 99, 104]⟩] w (fun e w' => e = .returned (.int .i64 1) ∧ w = w') ∧
        Calls Try.prog 13 #[.pointer (some ⟨bt, 0, none⟩), .string ⟨#[110, 111, 97, 114, 99, 104]⟩, .string a] w (fun e w' => e = .returned (.int .i64 (betterT T noarch a.data.toList)) ∧ w = w')) := fun w bt h => by
      refine ⟨better_any w bt T a b HA.out HB.out h, better_any w bt T b c HB.out HC.out h, better_any w bt T a c HA.out HC.out h, ?_, ?_, score_any w bt T a HA.out h, ?_, ?_⟩
      · have := better_any w bt T a a HA.out HA.out h
        rwa [X2.out] at this
      · have := better_any w bt T b a HB.out HA.out h
        rwa [X1.out] at this
      · have := score_any w bt T ⟨#[110, 111, 97, 114, 99, 104]⟩ (by decide) h
        have e : scoreT T (⟨#[110, 111, 97, 114, 99, 104]⟩ : ByteArray).data.toList = 1 := h.1.noarch
        rwa [e] at this
      · exact better_any w bt T ⟨#[110, 111, 97, 114, 99, 104]⟩ a (by decide) HA.out h
    have g1 := better_range T a.data.toList b.data.toList
    have g2 := better_range T b.data.toList c.data.toList
    have g3 := better_range T a.data.toList c.data.toList
    clear X1 X2 HA HB HC
    generalize betterT T a.data.toList b.data.toList = ab at *
    generalize betterT T b.data.toList c.data.toList = bc at *
    generalize betterT T a.data.toList c.data.toList = ac at *
    generalize scoreT T a.data.toList = sa at *
    generalize betterT T noarch a.data.toList = na at *
    have hsa : sa = 0 ∨ 0 < sa := by omega
    rcases g1 with rfl | rfl | rfl <;> rcases g2 with rfl | rfl | rfl <;> rcases g3 with rfl | rfl | rfl <;> rcases hsa with rfl | hsa
    all_goals first
      | (exfalso; omega)
      | (clear f1 f2 f3
         go_enter Try.func5, Try.ntmps5
         go_wp2_with fail
         refine (awake_any _).mono ?_
         rintro e w1 ⟨rfl, hb1⟩
         have B1 := Lib.hid hb1
         clear hb1
         go_wp2_with fail
         refine (CP.out _).mono ?_
         rintro e w2 ⟨hb2, ⟨h, _⟩ | ⟨T', bt, hT, rfl, hTab⟩⟩
         · cases h
         injection hT with hT
         subst hT
         obtain ⟨k1, k2, k3, k4, k5, k6, k7, k8⟩ := C.out w2 bt hTab
         have hna := (HX.out w2 bt hTab).1
         have K1 := Lib.hid k1
         have K2 := Lib.hid k2
         have K3 := Lib.hid k3
         have K4 := Lib.hid k4
         have K5 := Lib.hid k5
         have K6 := Lib.hid k6
         have K7 := Lib.hid k7
         have K8 := Lib.hid k8
         have B2 := Lib.hid (B1.out.trans (hb2.mono B1.out.size))
         clear hb2 hTab k1 k2 k3 k4 k5 k6 k7 k8 C CP
         go_wp2_with fail
         refine K1.out.mono ?_
         rintro e w4 ⟨rfl, rfl⟩
         go_wp2_with fail
         refine K2.out.mono ?_
         rintro e w4 ⟨rfl, rfl⟩
         go_wp2_with fail
         refine K3.out.mono ?_
         rintro e w4 ⟨rfl, rfl⟩
         go_wp2_with fail
         refine K4.out.mono ?_
         rintro e w4 ⟨rfl, rfl⟩
         go_wp2_with fail
         refine K5.out.mono ?_
         rintro e w4 ⟨rfl, rfl⟩
         go_wp2_with fail
         refine K6.out.mono ?_
         rintro e w4 ⟨rfl, rfl⟩
         go_wp2_with fail
         refine K7.out.mono ?_
         rintro e w4 ⟨rfl, rfl⟩
         go_wp2_with fail
         refine K8.out.mono ?_
         rintro e w4 ⟨rfl, rfl⟩
         go_wp2_with fail
         go_ret
         exact ⟨rfl, B2.out⟩)
end Go.Proofs.Ytahodhodkgdgnaa
