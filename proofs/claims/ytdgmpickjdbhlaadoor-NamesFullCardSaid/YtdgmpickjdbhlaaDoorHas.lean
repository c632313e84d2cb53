/- The contract of has. -/
import Derived.Test.YtdgmpickjdbhlaaDoorAdd
namespace Go.Proofs.YtdgmpickjdbhlaaDoor
open Go.RowKit

/-- Is that a name's number? -/
def hasB (l : List ByteArray) (n : Int) : Bool := decide (0 ≤ n ∧ n < l.length)
theorem hasB_yes {l : List ByteArray} {n : Int} (h0 : 0 ≤ n) (h1 : n < l.length) : hasB l n = true := by simp [hasB, h0, h1]
theorem hasB_no {l : List ByteArray} {n : Int} (h : n < 0 ∨ (l.length : Int) ≤ n) : hasB l n = false := by simp [hasB]; omega
theorem hasB_nat {l : List ByteArray} {n : Int} (h : hasB l n = true) : ∃ k : Nat, n = (k : Int) ∧ k < l.length := by
  simp [hasB] at h; exact ⟨n.toNat, by omega, by omega⟩

set_option maxRecDepth 100000 in
theorem has_any (w : World) (F : List Nat) (bt : Nat) (l : List ByteArray) (r : List Cmp) (n : Int) (h : Tab w F bt l r) :
    Calls Tryd.prog 12 #[.pointer (some ⟨bt, 0, none⟩), .int .i64 n] w fun e w' => e = .returned (.bool (hasB l n)) ∧ w = w' := by
  obtain ⟨hg, vn, mi, vc, mp, D, E, hT, rfl⟩ := h
  obtain ⟨An, cn, rfl, hn1, hn2⟩ := own_form' hT.names
  have c0 : w.cell? ⟨bt, 0, none⟩ = some (.slice An l.length cn) := hT.blk.cell 0
  clear hT hg
  by_cases h0 : 0 ≤ n
  · by_cases h1 : n < (l.length : Int)
    · have H := Lib.hid (hasB_yes h0 h1)
      go_enter Tryd.func12, Tryd.ntmps12
      go_wp2_with fail
      go_ret
      exact ⟨by rw [H.out]; rfl, rfl⟩
    · have H := Lib.hid (hasB_no (l := l) (n := n) (.inr (by omega)))
      have h1' : decide (n < (l.length : Int)) = false := by simp; omega
      go_enter Tryd.func12, Tryd.ntmps12
      go_wp2_with fail
      go_ret
      exact ⟨by rw [H.out]; rfl, rfl⟩
  · have H := Lib.hid (hasB_no (l := l) (n := n) (.inl (by omega)))
    have h0' : decide (0 ≤ n) = false := by simp; omega
    go_enter Tryd.func12, Tryd.ntmps12
    go_wp2_with fail
    go_ret
    exact ⟨by rw [H.out]; rfl, rfl⟩

theorem cells3_at {r : List Cmp} {k : Nat} {c : Cmp} (h : r[k]? = some c) : (cells3 r)[k * 3]? = some (.int .i64 c.1) ∧ (cells3 r)[k * 3 + 1]? = some (.int .i64 c.2.1) ∧ (cells3 r)[k * 3 + 2]? = some (.int .i64 c.2.2) := by
  induction r generalizing k with
  | nil => cases h
  | cons d r ih =>
    cases k with
    | zero => injection h with h; subst h; exact ⟨rfl, rfl, rfl⟩
    | succ k =>
      have := ih (k := k) (by simpa using h)
      have e : cells3 (d :: r) = [.int .i64 d.1, .int .i64 d.2.1, .int .i64 d.2.2] ++ cells3 r := rfl
      rw [e, show (k + 1) * 3 = 3 + k * 3 from by omega, List.getElem?_append_right (by simp), List.getElem?_append_right (by simp; omega), List.getElem?_append_right (by simp; omega)]
      simpa [show 3 + k * 3 - 3 = k * 3 from by omega, show 3 + k * 3 + 1 - 3 = k * 3 + 1 from by omega, show 3 + k * 3 + 2 - 3 = k * 3 + 2 from by omega] using this

end Go.Proofs.YtdgmpickjdbhlaaDoor
