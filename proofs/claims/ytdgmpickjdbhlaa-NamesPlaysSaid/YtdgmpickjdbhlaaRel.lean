/- The contracts of has, Name, Relation and Relate. -/
import Derived.Test.YtdgmpickjdbhlaaAdd
namespace Go.Proofs.Ytdgmpickjdbhlaa
open Go.RowKit

/-- Is that a name's number? -/
def hasB (l : List ByteArray) (n : Int) : Bool := decide (0 ≤ n ∧ n < l.length)
theorem hasB_yes {l : List ByteArray} {n : Int} (h0 : 0 ≤ n) (h1 : n < l.length) : hasB l n = true := by simp [hasB, h0, h1]
theorem hasB_no {l : List ByteArray} {n : Int} (h : n < 0 ∨ (l.length : Int) ≤ n) : hasB l n = false := by simp [hasB]; omega
theorem hasB_nat {l : List ByteArray} {n : Int} (h : hasB l n = true) : ∃ k : Nat, n = (k : Int) ∧ k < l.length := by
  simp [hasB] at h; exact ⟨n.toNat, by omega, by omega⟩

set_option maxRecDepth 100000 in
theorem has_any (w : World) (F : List Nat) (bt : Nat) (l : List ByteArray) (r : List Cmp) (n : Int) (h : Tab w F bt l r) :
    Calls Try.prog 23 #[.pointer (some ⟨bt, 0, none⟩), .int .i64 n] w fun e w' => e = .returned (.bool (hasB l n)) ∧ w = w' := by
  obtain ⟨hg, vn, mi, vc, mp, D, E, hT, rfl⟩ := h
  obtain ⟨An, cn, rfl, hn1, hn2⟩ := own_form' hT.names
  have c0 : w.cell? ⟨bt, 0, none⟩ = some (.slice An l.length cn) := hT.blk.cell 0
  clear hT hg
  by_cases h0 : 0 ≤ n
  · by_cases h1 : n < (l.length : Int)
    · have H := Lib.hid (hasB_yes h0 h1)
      go_enter Try.func23, Try.ntmps23
      go_wp2_with fail
      go_ret
      exact ⟨by rw [H.out]; rfl, rfl⟩
    · have H := Lib.hid (hasB_no (l := l) (n := n) (.inr (by omega)))
      have h1' : decide (n < (l.length : Int)) = false := by simp; omega
      go_enter Try.func23, Try.ntmps23
      go_wp2_with fail
      go_ret
      exact ⟨by rw [H.out]; rfl, rfl⟩
  · have H := Lib.hid (hasB_no (l := l) (n := n) (.inl (by omega)))
    have h0' : decide (0 ≤ n) = false := by simp; omega
    go_enter Try.func23, Try.ntmps23
    go_wp2_with fail
    go_ret
    exact ⟨by rw [H.out]; rfl, rfl⟩

set_option maxRecDepth 100000 in
theorem name_yes (w : World) (F : List Nat) (bt : Nat) (l : List ByteArray) (r : List Cmp) (k : Nat) (s : ByteArray) (hk : l[k]? = some s) (h : Tab w F bt l r) :
    Calls Try.prog 17 #[.pointer (some ⟨bt, 0, none⟩), .int .i64 (k : Int)] w fun e w' => e = .returned (.tuple #[.string s, .int .i64 0]) ∧ w = w' := by
  have HC := Lib.hid (has_any w F bt l r k h)
  have hlt := (List.getElem?_eq_some_iff.1 hk).1
  have HH := Lib.hid (hasB_yes (l := l) (n := (k : Int)) (by omega) (by omega))
  obtain ⟨hg, vn, mi, vc, mp, D, E, hT, rfl⟩ := h
  obtain ⟨An, cn, rfl, hn1, hn2⟩ := own_form' hT.names
  have c0 : w.cell? ⟨bt, 0, none⟩ = some (.slice An l.length cn) := hT.blk.cell 0
  have hfew := hg.few
  obtain ⟨b, rfl, hc⟩ := own_at_ hT.names (k := k) (u := .string s) (by simp [hk])
  clear hT hg hk
  go_enter Try.func17, Try.ntmps17
  go_wp2_with fail
  refine HC.out.mono ?_
  rintro e w' ⟨rfl, rfl⟩
  rw [HH.out]
  go_wp2_with fail
  go_ret2
  exact ⟨rfl, rfl⟩
set_option maxRecDepth 100000 in
theorem name_no (w : World) (F : List Nat) (bt : Nat) (l : List ByteArray) (r : List Cmp) (n : Int) (hk : hasB l n = false) (h : Tab w F bt l r) :
    Calls Try.prog 17 #[.pointer (some ⟨bt, 0, none⟩), .int .i64 n] w fun e w' => e = .returned (.tuple #[.string ⟨#[]⟩, .int .i64 22]) ∧ w = w' := by
  have HC := has_any w F bt l r n h
  rw [hk] at HC
  have HC := Lib.hid HC
  clear h hk
  go_enter Try.func17, Try.ntmps17
  go_wp2_with fail
  refine HC.out.mono ?_
  rintro e w' ⟨rfl, rfl⟩
  go_wp2_with fail
  go_ret2
  exact ⟨rfl, rfl⟩

theorem cells3_at {r : List Cmp} {k : Nat} {c : Cmp} (h : r[k]? = some c) : (cells3 r)[k * 3]? = some (.int .i64 c.1) ∧ (cells3 r)[k * 3 + 1]? = some (.int .i64 c.2.1) ∧ (cells3 r)[k * 3 + 2]? = some (.int .i64 c.2.2) := by
  induction r generalizing k with
  | nil => cases h
  | cons d r ih =>
    cases k with
    | zero => injection h with h; subst h; exact ⟨rfl, rfl, rfl⟩
    | succ k =>
      have := ih (k := k) (by simpa using h)
      have e : cells3 (d :: r) = [.int .i64 d.1, .int .i64 d.2.1, .int .i64 d.2.2] ++ cells3 r := rfl
      rw [e, show (k + 1) * 3 = 3 + k * 3 from by omega, List.getElem?_append_right (by simp), List.getElem?_append_right (by simp; omega), List.getElem?_append_right (by simp; omega)]
      simpa [show 3 + k * 3 - 3 = k * 3 from by omega, show 3 + k * 3 + 1 - 3 = k * 3 + 1 from by omega, show 3 + k * 3 + 2 - 3 = k * 3 + 2 from by omega] using this

set_option maxRecDepth 100000 in
theorem relation_yes (w : World) (F : List Nat) (bt : Nat) (l : List ByteArray) (r : List Cmp) (k : Nat) (c : Cmp) (hk : r[k]? = some c) (h : Tab w F bt l r) :
    Calls Try.prog 18 #[.pointer (some ⟨bt, 0, none⟩), .int .i64 (k : Int)] w fun e w' => e = .returned (.tuple #[.int .i64 c.1, .int .i64 c.2.1, .int .i64 c.2.2, .int .i64 0]) ∧ Below w.heap.size w w' := by
  have hlt := (List.getElem?_eq_some_iff.1 hk).1
  have hk3 := cells3_at hk
  obtain ⟨hg, vn, mi, vc, mp, D, E, hT, rfl⟩ := h
  obtain ⟨An, cn, rfl, hn1, hn2⟩ := own_form' hT.comps
  have c0 : w.cell? ⟨bt, 2, none⟩ = some (.slice An r.length cn) := hT.blk.cell 2
  have hfew := hg.rfew
  obtain ⟨b, e1, d0⟩ := own_ats hT.comps (k := k * 3) hk3.1
  obtain ⟨b', e2, d1⟩ := own_ats hT.comps (k := k * 3 + 1) hk3.2.1
  obtain ⟨b'', e3, d2⟩ := own_ats hT.comps (k := k * 3 + 2) hk3.2.2
  subst e1
  obtain rfl : b = b' := by injection e2 with e2; injection e2
  obtain rfl : b = b'' := by injection e3 with e3; injection e3
  have k0 : (0 : Int) ≤ (k : Int) := by omega
  have k1 : decide ((k : Int) < 0) = false := by simp
  have k2 : ¬ ((r.length : Int) ≤ (k : Int)) := by omega
  have k3 : (k : Int) < (r.length : Int) := by omega
  clear hT hg hk e2 e3 hk3
  go_enter Try.func18, Try.ntmps18
  go_wp2_with fail
  go_quiet (fail)
  go_wp2_with fail
  refine bodyPost_ret (results4 rfl _ _ _) rfl ?_
  exact ⟨rfl, below_drewN' ((Below.refl _ _).alloc (Nat.le_refl _) _) _⟩

set_option maxRecDepth 100000 in
theorem relation_no (w : World) (F : List Nat) (bt : Nat) (l : List ByteArray) (r : List Cmp) (n : Int) (hn : n < 0 ∨ (r.length : Int) ≤ n) (h : Tab w F bt l r) :
    Calls Try.prog 18 #[.pointer (some ⟨bt, 0, none⟩), .int .i64 n] w fun e w' => e = .returned (.tuple #[.int .i64 0, .int .i64 0, .int .i64 0, .int .i64 22]) ∧ Below w.heap.size w w' := by
  obtain ⟨hg, vn, mi, vc, mp, D, E, hT, rfl⟩ := h
  obtain ⟨An, cn, rfl, hn1, hn2⟩ := own_form' hT.comps
  have c0 : w.cell? ⟨bt, 2, none⟩ = some (.slice An r.length cn) := hT.blk.cell 2
  have hfew := hg.rfew
  clear hT hg
  by_cases h0 : n < 0
  · clear hn
    go_enter Try.func18, Try.ntmps18
    go_wp2_with fail
    refine bodyPost_ret (results4 rfl _ _ _) rfl ?_
    exact ⟨rfl, Below.refl _ _⟩
  · have h1 : (r.length : Int) ≤ n := by omega
    have h0' : decide (n < 0) = false := by simp; omega
    clear hn
    go_enter Try.func18, Try.ntmps18
    go_wp2_with fail
    refine bodyPost_ret (results4 rfl _ _ _) rfl ?_
    exact ⟨rfl, Below.refl _ _⟩

end Go.Proofs.Ytdgmpickjdbhlaa
