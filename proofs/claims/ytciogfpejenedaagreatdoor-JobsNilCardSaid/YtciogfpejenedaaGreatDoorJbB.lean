/- Texts of which each byte is seen; the dependency of a text, and how it is printed; what a how may have. -/
import Derived.Test.YtciogfpejenedaaGreatDoorJbA
import Derived.Test.YtciogfpejenedaaGreatDoorDPrinted
import Derived.Test.YtciogfpejenedaaGreatDoorShelf
namespace Go.Proofs.YtciogfpejenedaaGreatDoor
set_option linter.unusedSimpArgs false
set_option linter.unusedVariables false
open Go.RowKit

def denseOther (x : Nat) : Bool := decide (x < 33) || decide (126 < x)
set_option maxRecDepth 100000 in
theorem denseOther_any (x : Nat) (hx : x ≤ 1114111) (w : World) : Calls Tryz.prog 50 #[.int .i32 (x : Int)] w fun e w' => e = .returned (.bool (denseOther x)) ∧ w = w' := by
  obtain ⟨y, hy⟩ : ∃ y, y = denseOther x := ⟨_, rfl⟩
  rw [← hy]
  have h := Lib.hid hy
  clear hy
  go_enter Tryz.func50, Tryz.ntmps50
  go_wp2_with fail
  all_goals
    go_ret
    refine ⟨ret_bool ?_, rfl⟩
    rw [h.out, Bool.eq_iff_iff]
    simp [denseOther] <;> omega
/-- Has a text a rune of a kind? -/
def hasRune (p : Nat → Bool) (s : ByteArray) : Bool := decide (0 ≤ Lib.idxFunc p true s)
def denseX (s : ByteArray) (most : Nat) : Bool := decide (s.size ≠ 0) && decide (s.size ≤ most) && !hasRune denseOther s
set_option maxHeartbeats 1000000 in
set_option maxRecDepth 100000 in
theorem dense_any (s : ByteArray) (most : Nat) (hm : most ≤ 1000) (w : World) : Calls Tryz.prog 31 #[.string s, .int .i64 (most : Int)] w fun e w' => e = .returned (.bool (denseX s most)) ∧ Below w.heap.size w w' := by
  have C0 : ∀ W, Calls Tryz.prog 51 #[.string s, .func (.func 50) #[] #[]] W fun e w' => e = .returned (.bool (hasRune denseOther s)) ∧ Below W.heap.size W w' := fun W =>
    Tryz.strings_ContainsFunc_grows 50 #[] (enters_of Tryz.func50 (by kernel_rfl) rfl) denseOther s W (fun W' x hx _ => (denseOther_any x hx W').mono fun e w' h => ⟨h.1, by rw [← h.2]; exact Below.refl _ _⟩)
  have C := Lib.hid C0
  clear C0
  obtain ⟨x, hx⟩ : ∃ x, x = denseX s most := ⟨_, rfl⟩
  rw [← hx]
  have HX := Lib.hid hx
  clear hx
  by_cases h0 : s.size = 0
  · have HV : Hid (x = false) := HX.out.trans (by simp [denseX, h0])
    obtain rfl := empty_of h0
    clear HX h0 C
    go_enter Tryz.func31, Tryz.ntmps31
    go_wp2_with fail
    go_ret
    exact ⟨by rw [HV.out]; rfl, Below.refl _ _⟩
  obtain ⟨b1, b2, b3⟩ := blank_of h0
  by_cases h20 : s.size ≤ most
  · have HV : Hid (x = !hasRune denseOther s) := HX.out.trans (by simp [denseX, h0, h20])
    have t20 : (s.size : Int) ≤ (most : Int) := by omega
    clear HX
    generalize hasRune denseOther s = y at C HV
    go_enter Tryz.func31, Tryz.ntmps31
    go_wp2_with fail
    refine (C.out _).mono ?_
    rintro e w1 ⟨rfl, hb1⟩
    have HB := Lib.hid hb1
    clear hb1 C
    go_wp2_with fail
    go_ret
    exact ⟨by rw [HV.out]; rfl, HB.out⟩
  · have HV : Hid (x = false) := HX.out.trans (by simp [denseX, h20])
    have t20 : ¬ (s.size : Int) ≤ (most : Int) := by omega
    clear HX C
    go_enter Tryz.func31, Tryz.ntmps31
    go_wp2_with fail
    go_ret
    exact ⟨by rw [HV.out]; rfl, Below.refl _ _⟩
/-- How the dependency of a text is printed, if a single package may meet it. -/
def oneX (s : ByteArray) : ByteArray := match parseD s.data.toList with
  | (some d, _) => if d.kind = 1 ∨ d.kind = 5 ∨ d.kind = 6 then printS d else ⟨#[]⟩
  | (none, _) => ⟨#[]⟩
theorem parse_err {t : List UInt8} {n : Int} (h : parseD t = (none, n)) : n ≠ 0 := by
  unfold parseD at h
  split at h
  · injection h with h1 h2
    rw [← h2]
    decide
  · split at h
    · injection h with h1 h2
      cases h1
    · next hc =>
      injection h with h1 h2
      rw [← h2]
      exact hc
end Go.Proofs.YtciogfpejenedaaGreatDoor
