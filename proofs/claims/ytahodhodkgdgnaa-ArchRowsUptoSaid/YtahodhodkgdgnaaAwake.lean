/- The contract of awake; the walks of ArchNames and ArchNil. -/
import Derived.Test.YtahodhodkgdgnaaRefP
namespace Go.Proofs.Ytahodhodkgdgnaa
set_option linter.unusedSimpArgs false
set_option linter.unusedVariables false
open Go.RowKit

def txA : List UInt8 := [120, 56, 54, 95, 54, 52, 62, 105, 54, 56, 54, 58, 105, 53, 56, 54, 62, 105, 51, 56, 54]
def TA : Tb := [(noarch, 1), ([120, 56, 54, 95, 54, 52], 2), ([105, 54, 56, 54], 3), ([105, 53, 56, 54], 3), ([105, 51, 56, 54], 4)]
theorem parseA : parseT txA = some TA := by decide +kernel
set_option maxHeartbeats 1000000 in
set_option maxRecDepth 100000 in
theorem awake_any (w : World) : Calls Try.prog 8 #[] w fun e w' => e = .returned (.bool true) ∧ Below w.heap.size w w' := by
  have CP := Lib.hid (parse_any ⟨#[120, 56, 54, 95, 54, 52, 62, 105, 54, 56, 54, 58, 105, 53, 56, 54, 62, 105, 51, 56, 54]⟩ (by decide) w)
  rw [show parseT (⟨#[120, 56, 54, 95, 54, 52, 62, 105, 54, 56, 54, 58, 105, 53, 56, 54, 62, 105, 51, 56, 54]⟩ : ByteArray).data.toList = some TA from parseA] at CP
  go_enter Try.func8, Try.ntmps8
  go_wp2_with fail
  refine CP.out.mono ?_
  rintro e w1 ⟨hb, h | ⟨T, bt, hT, rfl, hTab⟩⟩
  · cases h.1
  injection hT with hT
  subst hT
  have HB := Lib.hid hb
  have C1 := Lib.hid (score_any w1 bt TA ⟨#[105, 53, 56, 54]⟩ (by decide) hTab)
  rw [show scoreT TA (⟨#[105, 53, 56, 54]⟩ : ByteArray).data.toList = 3 by decide +kernel] at C1
  have C2 := Lib.hid (score_any w1 bt TA ⟨#[112, 112, 99]⟩ (by decide) hTab)
  rw [show scoreT TA (⟨#[112, 112, 99]⟩ : ByteArray).data.toList = 0 by decide +kernel] at C2
  have C3 := Lib.hid (better_any w1 bt TA ⟨#[110, 111, 97, 114, 99, 104]⟩ ⟨#[120, 56, 54, 95, 54, 52]⟩ (by decide) (by decide) hTab)
  rw [show betterT TA (⟨#[110, 111, 97, 114, 99, 104]⟩ : ByteArray).data.toList (⟨#[120, 56, 54, 95, 54, 52]⟩ : ByteArray).data.toList = -1 by decide +kernel] at C3
  have C4 := Lib.hid (better_any w1 bt TA ⟨#[112, 112, 99]⟩ ⟨#[105, 51, 56, 54]⟩ (by decide) (by decide) hTab)
  rw [show betterT TA (⟨#[112, 112, 99]⟩ : ByteArray).data.toList (⟨#[105, 51, 56, 54]⟩ : ByteArray).data.toList = 1 by decide +kernel] at C4
  clear hb hTab CP
  go_wp2_with fail
  refine C1.out.mono ?_
  rintro e w2 ⟨rfl, rfl⟩
  go_wp2_with fail
  refine C2.out.mono ?_
  rintro e w2 ⟨rfl, rfl⟩
  go_wp2_with fail
  refine C3.out.mono ?_
  rintro e w2 ⟨rfl, rfl⟩
  go_wp2_with fail
  refine C4.out.mono ?_
  rintro e w2 ⟨rfl, rfl⟩
  go_wp2_with fail
  go_ret
  exact ⟨rfl, HB.out⟩

set_option maxRecDepth 100000 in
theorem archNames_walk (W : World) :
    Calls Try.prog 3 #[] W (TrueBelow W) := by
  go_enter Try.func3, Try.ntmps3
  go_wp2_with fail
  refine (awake_any _).mono ?_
  rintro e w1 ⟨rfl, hb1⟩
  go_wp2_with fail
  go_ret
  exact ⟨rfl, hb1⟩

set_option maxRecDepth 100000 in
theorem archNil_walk {H : Type} {enc : TypeId × Value → H} (W : World) {v0 v1 : Value} {d0 d1 : DataW H} (h0 : In enc Try.prog W 9 v0 d0) (h1 : In enc Try.prog W 9 v1 d1)
    (hsz : (DataW.weightsEach Try.prog [9, 9] [d0, d1]).all (· ≤ reachBytes) = true) :
    Calls Try.prog 6 #[v0, v1] W (TrueBelow W) := by
  obtain ⟨a, rfl, _, ha⟩ := h0.string Try.underlying9
  obtain ⟨b, rfl, _, hb⟩ := h1.string Try.underlying9
  clear h0 h1 hsz ha hb
  have C1 := Lib.hid (fun w => score_nil w a)
  have C2 := Lib.hid (fun w => better_nil w a b)
  go_enter Try.func6, Try.ntmps6
  go_wp2_with fail
  refine (awake_any _).mono ?_
  rintro e w1 ⟨rfl, hb1⟩
  have HB := Lib.hid hb1
  clear hb1
  go_wp2_with fail
  refine (C1.out _).mono ?_
  rintro e w2 ⟨rfl, rfl⟩
  go_wp2_with fail
  refine (C2.out _).mono ?_
  rintro e w2 ⟨rfl, rfl⟩
  go_wp2_with fail
  go_ret
  exact ⟨rfl, HB.out⟩
end Go.Proofs.Ytahodhodkgdgnaa
