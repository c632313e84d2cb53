/- Bits in memory; the contract of Has. -/
import Derived.Test.YtfnfiaonaeopkaaDoorOnes
import Derived.StillTailTactics
import Derived.Deep.WholeRow
namespace Go.Proofs.YtfnfiaonaeopkaaDoor
set_option linter.unusedSimpArgs false
set_option linter.unusedVariables false
open Go.RowKit

def cellsW (ws : Nat → Nat) : Array Value := Array.ofFn (n := 1024) fun i => Value.int .u64 (ws i.1 : Int)
theorem cellsW_at (ws : Nat → Nat) {i : Nat} (h : i < 1024) : (cellsW ws)[i]? = some (.int .u64 (ws i : Int)) := by
  unfold cellsW
  rw [Array.getElem?_ofFn]
  simp [h]
theorem cellsW_size (ws : Nat → Nat) : (cellsW ws).size = 1024 := by simp [cellsW]
theorem cellsW_set (ws : Nat → Nat) {i : Nat} (h : i < 1024) (v : Nat) : (cellsW ws).setIfInBounds i (.int .u64 (v : Int)) = cellsW (fun j => if j = i then v else ws j) := by
  apply Array.ext_getElem?
  intro j
  by_cases hj : j < 1024
  · rw [cellsW_at _ hj, Array.getElem?_setIfInBounds]
    by_cases hji : i = j
    · subst hji; simp [cellsW_size, h]
    · rw [if_neg hji, cellsW_at _ hj, if_neg (fun e => hji e.symm)]
  · rw [Array.getElem?_eq_none (by simp [cellsW_size]; omega), Array.getElem?_eq_none (by rw [cellsW_size]; omega)]
structure BitsAt (w : World) (b : Nat) (ws : Nat → Nat) : Prop where
  blk : Blk w b 27 (cellsW ws)
  small : ∀ i, ws i < 18446744073709551616
/-- Is a number in? -/
def isIn (ws : Nat → Nat) (n : Nat) : Bool := (ws (n / 64)).testBit (n % 64)
def hasB (ws : Nat → Nat) (n : Int) : Bool := decide (0 ≤ n) && decide (n ≤ 65535) && isIn ws n.toNat
theorem bit_test (x r : Nat) (hx : x < 18446744073709551616) : (bits .and .u64 ((x : Int) / 2 ^ r) 1 == 1) = x.testBit r := by
  have h1 : x / 2 ^ r < 18446744073709551616 := Nat.lt_of_le_of_lt (Nat.div_le_self _ _) hx
  have := bits_and_u64_nat (x / 2 ^ r) 1 h1 (by decide)
  rw [show ((1 : Nat) : Int) = 1 from rfl] at this
  have e : ((x / 2 ^ r : Nat) : Int) = (x : Int) / 2 ^ r := by push_cast; rfl
  rw [← e, this, Nat.and_one_is_mod, Nat.testBit_eq_decide_div_mod_eq, Bool.eq_iff_iff, beq_iff_eq, decide_eq_true_eq]
  generalize x / 2 ^ r % 2 = z
  omega

set_option maxHeartbeats 1000000 in
set_option maxRecDepth 100000 in
theorem has_in (w : World) (b : Nat) (ws : Nat → Nat) (h : BitsAt w b ws) (k : Nat) (hk : k ≤ 65535) :
    Calls Tryd.prog 8 #[.pointer (some ⟨b, 0, none⟩), .int .i64 (k : Int)] w fun e w' => e = .returned (.bool (isIn ws k)) ∧ w = w' := by
  have hq : (k : Int) / 64 = ((k / 64 : Nat) : Int) := by omega
  have hr : (k : Int) % 64 = ((k % 64 : Nat) : Int) := by omega
  have hql : k / 64 < 1024 := by omega
  have hrl : k % 64 < 64 := by omega
  have HT := Lib.hid (bit_test (ws (k / 64)) (k % 64) (h.small _))
  have c0 : w.cell? ⟨b, k / 64, none⟩ = some (.int .u64 (ws (k / 64) : Int)) := (h.blk.cell _).trans (cellsW_at ws hql)
  unfold isIn
  clear h
  generalize k / 64 = q at *
  generalize k % 64 = r at *
  generalize ws q = x at *
  go_enter Tryd.func8, Tryd.ntmps8
  go_wp2_with fail
  go_ret
  exact ⟨ret_bool (by rw [← HT.out]), rfl⟩
set_option maxRecDepth 100000 in
theorem has_out (w : World) (b : Nat) (n : Int) (h : n < 0 ∨ 65535 < n) :
    Calls Tryd.prog 8 #[.pointer (some ⟨b, 0, none⟩), .int .i64 n] w fun e w' => e = .returned (.bool false) ∧ w = w' := by
  rcases h with h | h
  · have t : decide (n < 0) = true := by simpa using h
    go_enter Tryd.func8, Tryd.ntmps8
    go_wp2_with fail
    go_ret
    exact ⟨rfl, rfl⟩
  · have t : decide (n < 0) = false := by simp; omega
    have t2 : decide (65535 < n) = true := by simpa using h
    go_enter Tryd.func8, Tryd.ntmps8
    go_wp2_with fail
    go_ret
    exact ⟨rfl, rfl⟩

/-! Setting. -/
def flip (ws : Nat → Nat) (n : Nat) : Nat → Nat := fun j => if j = n / 64 then ws (n / 64) ^^^ 2 ^ (n % 64) else ws j
theorem flip_in (ws : Nat → Nat) (n m : Nat) : isIn (flip ws n) m = (isIn ws m != decide (m = n)) := by
  unfold isIn flip
  by_cases h : m / 64 = n / 64
  · rw [if_pos h, Nat.testBit_xor, Nat.testBit_two_pow, h]
    have e : decide (n % 64 = m % 64) = decide (m = n) := by
      rw [Bool.eq_iff_iff, decide_eq_true_eq, decide_eq_true_eq]; omega
    rw [e]
  · rw [if_neg h, decide_eq_false (fun e => h (by rw [e]))]
    simp
theorem flip_small {ws : Nat → Nat} (h : ∀ i, ws i < 18446744073709551616) (n : Nat) : ∀ i, flip ws n i < 18446744073709551616 := fun i => by
  unfold flip
  split
  · have : 2 ^ (n % 64) < 2 ^ 64 := Nat.pow_lt_pow_right (by decide) (Nat.mod_lt _ (by decide))
    exact Nat.xor_lt_two_pow (n := 64) (h _) this
  · exact h i
theorem one_shift (r : Nat) (h : r < 64) : IntKind.u64.wrap (2 ^ r) = ((2 ^ r : Nat) : Int) := by
  have : 2 ^ r < 18446744073709551616 := Nat.pow_lt_pow_right (m := r) (n := 64) (by decide) h
  have e : ((2 : Int) ^ r) = ((2 ^ r : Nat) : Int) := by push_cast; rfl
  rw [e, IntKind.wrap_u64]
  generalize 2 ^ r = z at *
  omega

set_option maxHeartbeats 1000000 in
set_option maxRecDepth 100000 in
theorem set_flip (w : World) (b : Nat) (ws : Nat → Nat) (h : BitsAt w b ws) (k : Nat) (hk : k ≤ 65535) (i : Bool) (hi : isIn ws k = !i) :
    Calls Tryd.prog 7 #[.pointer (some ⟨b, 0, none⟩), .int .i64 (k : Int), .bool i] w fun e w' => e = .returned (.tuple #[.bool true, .int .i64 0]) ∧ BitsAt w' b (flip ws k) ∧ Turned [b] w w' := by
  have C := Lib.hid (has_in w b ws h k hk)
  rw [hi] at C
  have H := Lib.hid h
  have hq : (k : Int) / 64 = ((k / 64 : Nat) : Int) := by omega
  have hr : (k : Int) % 64 = ((k % 64 : Nat) : Int) := by omega
  have hql : k / 64 < 1024 := by omega
  have hrl : k % 64 < 64 := by omega
  have c0 : w.cell? ⟨b, k / 64, none⟩ = some (.int .u64 (ws (k / 64) : Int)) := (h.blk.cell _).trans (cellsW_at ws hql)
  have f0 := h.blk.free (k / 64)
  have HX := Lib.hid (bits_xor_u64_nat (ws (k / 64)) (2 ^ (k % 64)) (h.small _) (Nat.pow_lt_pow_right (m := k % 64) (n := 64) (by decide) hrl))
  have HS := Lib.hid (one_shift (k % 64) hrl)
  have HF : Hid (BitsAt (w.setCell ⟨b, k / 64, none⟩ (.int .u64 ((ws (k / 64) ^^^ 2 ^ (k % 64) : Nat) : Int))) b (flip ws k)) := ⟨by
    have := h.blk.set_ (k / 64) (.int .u64 ((ws (k / 64) ^^^ 2 ^ (k % 64) : Nat) : Int))
    rwa [cellsW_set ws hql] at this, flip_small h.small k⟩
  clear h hi
  generalize k / 64 = q at *
  generalize k % 64 = r at *
  generalize ws q = x at *
  cases i
  all_goals
    go_enter Tryd.func7, Tryd.ntmps7
    go_wp2_with fail
    refine C.out.mono ?_
    rintro e w1 ⟨rfl, rfl⟩
    go_wp2_with fail
    go_region
    go_wp2_with fail
    go_ret2
    rw [HS.out, HX.out]
    exact ⟨rfl, ⟨HF.out.blk, HF.out.small⟩, ((Turned.refl [b] _).drew).setCell (.inl (by simp)) _⟩
set_option maxRecDepth 100000 in
theorem set_same (w : World) (b : Nat) (ws : Nat → Nat) (h : BitsAt w b ws) (k : Nat) (hk : k ≤ 65535) (i : Bool) (hi : isIn ws k = i) :
    Calls Tryd.prog 7 #[.pointer (some ⟨b, 0, none⟩), .int .i64 (k : Int), .bool i] w fun e w' => e = .returned (.tuple #[.bool false, .int .i64 0]) ∧ w = w' := by
  have C := Lib.hid (has_in w b ws h k hk)
  rw [hi] at C
  clear h hi
  cases i
  all_goals
    go_enter Tryd.func7, Tryd.ntmps7
    go_wp2_with fail
    refine C.out.mono ?_
    rintro e w1 ⟨rfl, rfl⟩
    go_wp2_with fail
    go_ret2
    exact ⟨rfl, rfl⟩
set_option maxRecDepth 100000 in
theorem set_out (w : World) (b : Nat) (n : Int) (h : n < 0 ∨ 65535 < n) (i : Bool) :
    Calls Tryd.prog 7 #[.pointer (some ⟨b, 0, none⟩), .int .i64 n, .bool i] w fun e w' => e = .returned (.tuple #[.bool false, .int .i64 1]) ∧ w = w' := by
  rcases h with h | h
  · have t : decide (n < 0) = true := by simpa using h
    go_enter Tryd.func7, Tryd.ntmps7
    go_wp2_with fail
    go_ret2
    exact ⟨rfl, rfl⟩
  · have t : decide (n < 0) = false := by simp; omega
    have t2 : decide (65535 < n) = true := by simpa using h
    go_enter Tryd.func7, Tryd.ntmps7
    go_wp2_with fail
    go_ret2
    exact ⟨rfl, rfl⟩

theorem load_row {w : World} {b n : Nat} {t : TypeId} {cs : Array Value} (h : Blk w b t cs) (hn : cs.size = n) : (loadCellsFrom ⟨b, 0, none⟩ 0 n #[]).run Tryd.prog w = .ok cs w := by
  subst hn
  have := run_loadCells_list (P := Tryd.prog) w ⟨b, 0, none⟩ cs.toList (fun j v hv => by
    have hadd : (⟨b, 0, none⟩ : Addr).add j = ⟨b, j, none⟩ := by unfold Addr.add; split <;> simp_all
    rw [hadd, h.cell j]
    simpa using hv)
  simpa [loadCells] using this
/-! How many are in. -/
def popTo (ws : Nat → Nat) : Nat → Nat
  | 0 => 0
  | k + 1 => popTo ws k + pop 64 (ws k)
theorem pop_le (n x : Nat) : pop n x ≤ n := by
  induction n generalizing x with
  | zero => exact Nat.le_refl _
  | succ n ih => have := ih (x / 2); unfold pop; omega
theorem popTo_le (ws : Nat → Nat) (k : Nat) : popTo ws k ≤ 64 * k := by
  induction k with
  | zero => exact Nat.le_refl _
  | succ k ih => have := pop_le 64 (ws k); unfold popTo; omega
end Go.Proofs.YtfnfiaonaeopkaaDoor
