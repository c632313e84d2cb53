/- The walk of ArchScores. -/
import Derived.Test.YtahodhodkgdgnaaAwake
namespace Go.Proofs.Ytahodhodkgdgnaa
set_option linter.unusedSimpArgs false
set_option linter.unusedVariables false
open Go.RowKit

theorem text_size {H : Type} {ts : List TypeId} {ds : List (DataW H)} (hsz : (DataW.weightsEach Try.prog ts ds).all (· ≤ reachBytes) = true) {j : Nat} {s : ByteArray} (ht : ts[j]? = some 9) (hd : ds[j]? = some (.lit (.string s.data.toList))) : s.size ≤ 4611686018427387904 := by
  have := sized_string hsz ht hd
  rw [size_len] at this
  have e : reachBytes ≤ 4611686018427387904 := by decide
  omega

set_option maxHeartbeats 4000000 in
set_option maxRecDepth 1000000 in
theorem archScores_walk {H : Type} {enc : TypeId × Value → H} (W : World) {v0 v1 v2 : Value} {d0 d1 d2 : DataW H} (h0 : In enc Try.prog W 9 v0 d0) (h1 : In enc Try.prog W 9 v1 d1) (h2 : In enc Try.prog W 9 v2 d2)
    (hsz : (DataW.weightsEach Try.prog [9, 9, 9] [d0, d1, d2]).all (· ≤ reachBytes) = true) :
    Calls Try.prog 4 #[v0, v1, v2] W (TrueBelow W) := by
  obtain ⟨s, rfl, rfl, hs⟩ := h0.string Try.underlying9
  obtain ⟨a, rfl, _, ha⟩ := h1.string Try.underlying9
  obtain ⟨b, rfl, _, hb⟩ := h2.string Try.underlying9
  have hs62 := text_size hsz (j := 0) rfl rfl
  have CP := Lib.hid (fun w => parse_any s hs w)
  have CR := Lib.hid (fun w => rparse_any s hs62 w)
  have HA := Lib.hid ha
  have HB := Lib.hid hb
  clear h0 h1 h2 hsz hs hs62 ha hb
  generalize parseT s.data.toList = r at *
  go_enter Try.func4, Try.ntmps4
  go_wp2_with fail
  refine (awake_any _).mono ?_
  rintro e w1 ⟨rfl, hb1⟩
  have B1 := Lib.hid hb1
  clear hb1
  cases r with
  | none =>
    go_wp2_with fail
    refine (CP.out _).mono ?_
    rintro e w2 ⟨hb2, ⟨_, rfl⟩ | ⟨T, bt, hT, _⟩⟩
    case inr => cases hT
    have B2 := Lib.hid (B1.out.trans (hb2.mono B1.out.size))
    clear hb2
    go_wp2_with fail
    refine (CR.out _).mono ?_
    rintro e w3 ⟨hb3, ⟨_, rfl⟩ | ⟨T, bt, hT, _⟩⟩
    case inr => cases hT
    have B3 := Lib.hid (B2.out.trans (hb3.mono B2.out.size))
    clear hb3
    go_wp2_with fail
    go_ret
    exact ⟨rfl, B3.out⟩
  | some T =>
    go_wp2_with fail
    refine (CP.out _).mono ?_
    rintro e w2 ⟨hb2, ⟨h, _⟩ | ⟨T', bt, hT, rfl, hTab⟩⟩
    · cases h
    injection hT with hT
    subst hT
    have B2 := Lib.hid (B1.out.trans (hb2.mono B1.out.size))
    have HT2 := Lib.hid hTab
    clear hb2 hTab
    go_wp2_with fail
    refine (CR.out _).mono ?_
    rintro e w3 ⟨hb3, ⟨h, _⟩ | ⟨T', bt', hT, rfl, hTab⟩⟩
    · cases h
    injection hT with hT
    subst hT
    have B3 := Lib.hid (B2.out.trans (hb3.mono B2.out.size))
    have HT3 := HT2.out.below hb3
    have S1 := Lib.hid (score_any w3 bt T a HA.out HT3)
    have S2 := Lib.hid (score_any w3 bt T b HB.out HT3)
    have S3 := Lib.hid (better_any w3 bt T a b HA.out HB.out HT3)
    have R1 := Lib.hid (rscore_tab w3 bt' T a hTab)
    have R2 := Lib.hid (rscore_tab w3 bt' T b hTab)
    have R3 := Lib.hid (rbetter_tab w3 bt' T a b hTab)
    clear hb3 hTab HT3 HT2 CP CR
    generalize scoreT T a.data.toList = x at *
    generalize scoreT T b.data.toList = y at *
    generalize betterT T a.data.toList b.data.toList = z at *
    go_wp2_with fail
    refine S1.out.mono ?_
    rintro e w4 ⟨rfl, rfl⟩
    go_wp2_with fail
    refine R1.out.mono ?_
    rintro e w4 ⟨rfl, rfl⟩
    go_wp2_with fail
    refine S2.out.mono ?_
    rintro e w4 ⟨rfl, rfl⟩
    go_wp2_with fail
    refine R2.out.mono ?_
    rintro e w4 ⟨rfl, rfl⟩
    go_wp2_with fail
    refine S3.out.mono ?_
    rintro e w4 ⟨rfl, rfl⟩
    go_wp2_with fail
    refine R3.out.mono ?_
    rintro e w4 ⟨rfl, rfl⟩
    go_wp2_with fail
    go_ret
    exact ⟨rfl, B3.out⟩
end Go.Proofs.Ytahodhodkgdgnaa
