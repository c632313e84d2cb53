/- Bits of words: which are set, how many, the lowest one. -/
namespace Go.Proofs.YtfnfiaonaeopkaaDoor
set_option linter.unusedSimpArgs false
set_option linter.unusedVariables false

/-- Where the first n bits of a word are set, from k on. -/
def bl : Nat → Nat → Nat → List Nat
  | 0, _, _ => []
  | n + 1, k, x => if x % 2 = 1 then k :: bl n (k + 1) (x / 2) else bl n (k + 1) (x / 2)
def pop : Nat → Nat → Nat
  | 0, _ => 0
  | n + 1, x => x % 2 + pop n (x / 2)
theorem bl_len (n k x : Nat) : (bl n k x).length = pop n x := by
  induction n generalizing k x with
  | zero => rfl
  | succ n ih =>
    unfold bl pop
    split
    · rename_i h; rw [List.length_cons, ih, h]; omega
    · rename_i h; rw [ih]; omega
theorem bl_zero (n k : Nat) : bl n k 0 = [] := by
  induction n generalizing k with
  | zero => rfl
  | succ n ih => unfold bl; simp [ih]
theorem bl_mem (n k x y : Nat) : y ∈ bl n k x ↔ k ≤ y ∧ y < k + n ∧ x.testBit (y - k) = true := by
  induction n generalizing k x with
  | zero => simp [bl]; omega
  | succ n ih =>
    have hb : ∀ j, (x / 2).testBit j = x.testBit (j + 1) := fun j => (Nat.testBit_succ x j).symm
    have h0 : x.testBit 0 = decide (x % 2 = 1) := Nat.testBit_zero x
    unfold bl
    split
    · rename_i h
      rw [List.mem_cons, ih]
      constructor
      · rintro (rfl | ⟨h1, h2, h3⟩)
        · rw [Nat.sub_self, h0]; exact ⟨Nat.le_refl _, by omega, decide_eq_true h⟩
        · rw [hb] at h3
          exact ⟨by omega, by omega, by rwa [show y - (k + 1) + 1 = y - k by omega] at h3⟩
      · rintro ⟨h1, h2, h3⟩
        by_cases hy : y = k
        · exact .inl hy
        · refine .inr ⟨by omega, by omega, ?_⟩
          rw [hb, show y - (k + 1) + 1 = y - k by omega]; exact h3
    · rename_i h
      rw [ih]
      constructor
      · rintro ⟨h1, h2, h3⟩
        rw [hb] at h3
        exact ⟨by omega, by omega, by rwa [show y - (k + 1) + 1 = y - k by omega] at h3⟩
      · rintro ⟨h1, h2, h3⟩
        have hy : y ≠ k := by
          rintro rfl
          rw [Nat.sub_self, h0] at h3
          exact h (of_decide_eq_true h3)
        refine ⟨by omega, by omega, ?_⟩
        rw [hb, show y - (k + 1) + 1 = y - k by omega]; exact h3
theorem bl_rise (n k x : Nat) : (bl n k x).Pairwise (· < ·) := by
  induction n generalizing k x with
  | zero => exact List.Pairwise.nil
  | succ n ih =>
    unfold bl
    split
    · refine List.pairwise_cons.2 ⟨fun y hy => ?_, ih _ _⟩
      have := (bl_mem _ _ _ _).1 hy
      omega
    · exact ih _ _
/-- The lowest one. -/
theorem bl_low (n k c m : Nat) (h : c < n) : bl n k (2 ^ c * (2 * m + 1)) = (k + c) :: bl n k (2 ^ (c + 1) * m) := by
  induction c generalizing n k with
  | zero =>
    obtain ⟨n, rfl⟩ : ∃ j, n = j + 1 := ⟨n - 1, by omega⟩
    unfold bl
    have e1 : 2 ^ 0 * (2 * m + 1) = 2 * m + 1 := by omega
    have e2 : 2 ^ (0 + 1) * m = 2 * m := by omega
    rw [e1, e2, if_pos (by omega), if_neg (by omega)]
    have e3 : (2 * m + 1) / 2 = m := by omega
    have e4 : 2 * m / 2 = m := by omega
    rw [e3, e4]
    rfl
  | succ c ih =>
    obtain ⟨n, rfl⟩ : ∃ j, n = j + 1 := ⟨n - 1, by omega⟩
    unfold bl
    have e1 : 2 ^ (c + 1) * (2 * m + 1) = 2 * (2 ^ c * (2 * m + 1)) := by rw [Nat.pow_succ, Nat.mul_comm (2 ^ c) 2, Nat.mul_assoc]
    have e2 : 2 ^ (c + 1 + 1) * m = 2 * (2 ^ (c + 1) * m) := by rw [Nat.pow_succ, Nat.mul_comm (2 ^ (c + 1)) 2, Nat.mul_assoc]
    rw [e1, e2, if_neg (by omega), if_neg (by omega)]
    have e3 : ∀ z, 2 * z / 2 = z := fun z => by omega
    rw [e3, e3, ih n (k + 1) (by omega)]
    congr 1
    omega
theorem low_and (c m : Nat) : (2 ^ c * (2 * m + 1)) &&& (2 ^ c * (2 * m + 1) - 1) = 2 ^ (c + 1) * m := by
  have e1 : 2 ^ c * (2 * m + 1) = 2 ^ (c + 1) * m + 2 ^ c := by rw [Nat.pow_succ, Nat.mul_add, Nat.mul_one, Nat.mul_assoc]
  have hp : 0 < 2 ^ c := Nat.two_pow_pos c
  have hp2 : 2 ^ (c + 1) = 2 ^ c + 2 ^ c := by rw [Nat.pow_succ]; omega
  have e2 : 2 ^ c * (2 * m + 1) - 1 = 2 ^ (c + 1) * m + (2 ^ c - 1) := by rw [e1]; omega
  rw [e2, e1]
  apply Nat.eq_of_testBit_eq
  intro i
  rw [Nat.testBit_and, Nat.testBit_two_pow_mul_add _ (by omega), Nat.testBit_two_pow_mul_add _ (by omega)]
  have e3 := Nat.testBit_two_pow_mul_add m (b := 0) (i := c + 1) (by omega) i
  rw [Nat.add_zero] at e3
  rw [e3]
  by_cases hi : i < c + 1
  · simp only [hi, if_true]
    rw [Nat.testBit_two_pow, Nat.testBit_two_pow_sub_one]
    simp
    omega
  · simp only [hi, if_false, Bool.and_self]

/-! How many: as the library adds them up. -/
def step (s M x : Nat) : Nat := ((x / 2 ^ s) &&& M) + (x &&& M)
/-- A byte, n times. -/
def mk (m : Nat) : Nat → Nat
  | 0 => 0
  | n + 1 => 256 * mk m n + m
theorem and_block {a b m M : Nat} (ha : a < 256) (hm : m < 256) : (256 * b + a) &&& (256 * M + m) = 256 * (b &&& M) + (a &&& m) := by
  apply Nat.eq_of_testBit_eq
  intro i
  have hx : a &&& m < 2 ^ 8 := Nat.and_lt_two_pow _ hm
  have e : (256 : Nat) = 2 ^ 8 := rfl
  rw [e, Nat.testBit_and, Nat.testBit_two_pow_mul_add _ ha, Nat.testBit_two_pow_mul_add _ hm, Nat.testBit_two_pow_mul_add _ hx]
  split <;> rw [Nat.testBit_and]
theorem shift_and {s a b m M : Nat} (hs : s = 1 ∨ s = 2) (ha : a < 256) (hm : m < 2 ^ (8 - s)) : ((256 * b + a) / 2 ^ s) &&& (256 * M + m) = 256 * ((b / 2 ^ s) &&& M) + ((a / 2 ^ s) &&& m) := by
  have hm8 : m < 2 ^ 8 := Nat.lt_of_lt_of_le hm (Nat.pow_le_pow_right (by decide) (by omega))
  have hx : (a / 2 ^ s) &&& m < 2 ^ 8 := Nat.and_lt_two_pow _ hm8
  apply Nat.eq_of_testBit_eq
  intro i
  have e : (256 : Nat) = 2 ^ 8 := rfl
  rw [e, Nat.testBit_and, Nat.testBit_two_pow_mul_add _ hm8, Nat.testBit_two_pow_mul_add _ hx, Nat.testBit_div_two_pow, Nat.testBit_two_pow_mul_add _ ha]
  by_cases hi : i < 8
  · simp only [hi, if_true]
    rw [Nat.testBit_and, Nat.testBit_div_two_pow]
    by_cases hi2 : i + s < 8
    · simp only [hi2, if_true]
    · have : m.testBit i = false := Nat.testBit_lt_two_pow (Nat.lt_of_lt_of_le hm (Nat.pow_le_pow_right (by decide) (by omega)))
      rw [this, Bool.and_false, Bool.and_false]
  · have hi2 : ¬ i + s < 8 := by omega
    simp only [hi, hi2, if_false]
    rw [Nat.testBit_and, Nat.testBit_div_two_pow, show i + s - 8 = i - 8 + s by omega]
theorem step_block {s a b m M : Nat} (hs : s = 1 ∨ s = 2) (ha : a < 256) (hm : m < 2 ^ (8 - s)) : step s (256 * M + m) (256 * b + a) = 256 * step s M b + step s m a := by
  unfold step
  rw [shift_and hs ha hm, and_block ha (Nat.lt_of_lt_of_le hm (by
    have : 2 ^ (8 - s) ≤ 2 ^ 8 := Nat.pow_le_pow_right (by decide) (by omega)
    exact this))]
  omega
def two (n x : Nat) : Nat := step 2 (mk 51 n) (step 1 (mk 85 n) x)
def ones (n x : Nat) : Nat := (two n x / 16 + two n x) &&& mk 15 n
def two8 (a : Nat) : Nat := step 2 51 (step 1 85 a)
theorem two8_small (a : Nat) (h : a < 256) : step 1 85 a < 256 ∧ two8 a < 256 ∧ two8 a % 16 ≤ 4 ∧ two8 a / 16 ≤ 4 ∧ (two8 a / 16 + two8 a) &&& 15 = pop 8 a := by
  have : ∀ m : Fin 256, step 1 85 m.1 < 256 ∧ two8 m.1 < 256 ∧ two8 m.1 % 16 ≤ 4 ∧ two8 m.1 / 16 ≤ 4 ∧ (two8 m.1 / 16 + two8 m.1) &&& 15 = pop 8 m.1 := by decide +kernel
  exact this ⟨a, h⟩
theorem two_succ (n x : Nat) : two (n + 1) x = 256 * two n (x / 256) + two8 (x % 256) := by
  have h := two8_small (x % 256) (Nat.mod_lt _ (by decide))
  unfold two two8
  have e : x = 256 * (x / 256) + x % 256 := by omega
  show step 2 (256 * mk 51 n + 51) (step 1 (256 * mk 85 n + 85) x) = _
  conv => lhs; rw [e]
  rw [step_block (.inl rfl) (Nat.mod_lt _ (by decide)) (by decide), step_block (.inr rfl) h.1 (by decide)]
theorem two_low (n x : Nat) : two n x % 16 ≤ 4 := by
  cases n with
  | zero => simp [two, mk, step]
  | succ n =>
    have h := two8_small (x % 256) (Nat.mod_lt _ (by decide))
    rw [two_succ]
    omega
theorem ones_succ (n x : Nat) : ones (n + 1) x = 256 * ones n (x / 256) + pop 8 (x % 256) := by
  have h := two8_small (x % 256) (Nat.mod_lt _ (by decide))
  have hl := two_low n (x / 256)
  unfold ones
  rw [two_succ]
  generalize two n (x / 256) = y at *
  generalize two8 (x % 256) = a at *
  have e1 : (256 * y + a) / 16 + (256 * y + a) = 256 * (y / 16 + y) + (a / 16 + a + 16 * (y % 16)) := by omega
  show _ &&& (256 * mk 15 n + 15) = _
  rw [e1, and_block (by omega) (by decide), ← h.2.2.2.2]
  congr 1
  have e15 : ∀ z, z &&& 15 = z % 16 := fun z => Nat.and_two_pow_sub_one_eq_mod z 4
  rw [e15, e15]
  omega
theorem ones_zero (x : Nat) : ones 0 x = 0 := by simp [ones, mk]
theorem pop_add (n x : Nat) : pop (8 + n) x = pop 8 (x % 256) + pop n (x / 256) := by
  have e : 8 + n = n + 1 + 1 + 1 + 1 + 1 + 1 + 1 + 1 := by omega
  rw [e]
  have e2 : (8 : Nat) = 0 + 1 + 1 + 1 + 1 + 1 + 1 + 1 + 1 := rfl
  rw [e2]
  simp only [pop]
  have d : x / 2 / 2 / 2 / 2 / 2 / 2 / 2 / 2 = x / 256 := by omega
  rw [d]
  omega
theorem pop8_le (a : Nat) (h : a < 256) : pop 8 a ≤ 8 := by
  have : ∀ m : Fin 256, pop 8 m.1 ≤ 8 := by decide +kernel
  exact this ⟨a, h⟩
/-- The library's last four steps. -/
def fold3 (y : Nat) : Nat := (y + y / 256) + (y + y / 256) / 65536
theorem ones64 (x : Nat) (hx : x < 18446744073709551616) : ones 8 x ≤ 578721382704613384 ∧ (fold3 (ones 8 x) + fold3 (ones 8 x) / 4294967296) % 128 = pop 64 x := by
  have l : ∀ i, pop 8 (x / 256 ^ i % 256) ≤ 8 := fun i => pop8_le _ (Nat.mod_lt _ (by decide))
  have l0 := l 0; have l1 := l 1; have l2 := l 2; have l3 := l 3; have l4 := l 4; have l5 := l 5; have l6 := l 6; have l7 := l 7
  have d1 : x / 256 ^ 0 = x := by omega
  have d2 : x / 256 / 256 = x / 256 ^ 2 := by omega
  have d3 : x / 256 / 256 / 256 = x / 256 ^ 3 := by omega
  have d4 : x / 256 / 256 / 256 / 256 = x / 256 ^ 4 := by omega
  have d5 : x / 256 / 256 / 256 / 256 / 256 = x / 256 ^ 5 := by omega
  have d6 : x / 256 / 256 / 256 / 256 / 256 / 256 = x / 256 ^ 6 := by omega
  have d7 : x / 256 / 256 / 256 / 256 / 256 / 256 / 256 = x / 256 ^ 7 := by omega
  have e1 : x / 256 ^ 1 = x / 256 := by omega
  have hp : pop 64 x = pop 8 (x % 256) + (pop 8 (x / 256 % 256) + (pop 8 (x / 256 ^ 2 % 256) + (pop 8 (x / 256 ^ 3 % 256) + (pop 8 (x / 256 ^ 4 % 256) + (pop 8 (x / 256 ^ 5 % 256) + (pop 8 (x / 256 ^ 6 % 256) + pop 8 (x / 256 ^ 7 % 256))))))) := by
    have q : ∀ n z, pop (n + 8) z = pop 8 (z % 256) + pop n (z / 256) := fun n z => by rw [Nat.add_comm, pop_add]
    rw [q 56, q 48, q 40, q 32, q 24, q 16, q 8, d7, d6, d5, d4, d3, d2]
    have : pop 8 (x / 256 ^ 7) = pop 8 (x / 256 ^ 7 % 256) := by
      rw [Nat.mod_eq_of_lt]; omega
    rw [this]
  have ho : ones 8 x = 256 * (256 * (256 * (256 * (256 * (256 * (256 * pop 8 (x / 256 ^ 7 % 256) + pop 8 (x / 256 ^ 6 % 256)) + pop 8 (x / 256 ^ 5 % 256)) + pop 8 (x / 256 ^ 4 % 256)) + pop 8 (x / 256 ^ 3 % 256)) + pop 8 (x / 256 ^ 2 % 256)) + pop 8 (x / 256 % 256)) + pop 8 (x % 256) := by
    rw [show (8 : Nat) = 0 + 1 + 1 + 1 + 1 + 1 + 1 + 1 + 1 from rfl]
    simp only [ones_succ, ones_zero, Nat.mul_zero, Nat.zero_add]
    rw [d7, d6, d5, d4, d3, d2]
  rw [d1] at l0
  rw [e1] at l1
  rw [hp, ho]
  generalize pop 8 (x % 256) = c0 at *
  generalize pop 8 (x / 256 % 256) = c1 at *
  generalize pop 8 (x / 256 ^ 2 % 256) = c2 at *
  generalize pop 8 (x / 256 ^ 3 % 256) = c3 at *
  generalize pop 8 (x / 256 ^ 4 % 256) = c4 at *
  generalize pop 8 (x / 256 ^ 5 % 256) = c5 at *
  generalize pop 8 (x / 256 ^ 6 % 256) = c6 at *
  generalize pop 8 (x / 256 ^ 7 % 256) = c7 at *
  clear d1 d2 d3 d4 d5 d6 d7 e1 hp ho l hx
  refine ⟨by omega, ?_⟩
  unfold fold3
  generalize hy : 256 * (256 * (256 * (256 * (256 * (256 * (256 * c7 + c6) + c5) + c4) + c3) + c2) + c1) + c0 = y
  have f1 : y / 256 = 256 * (256 * (256 * (256 * (256 * (256 * c7 + c6) + c5) + c4) + c3) + c2) + c1 := by omega
  rw [f1]
  generalize hz : y + (256 * (256 * (256 * (256 * (256 * (256 * c7 + c6) + c5) + c4) + c3) + c2) + c1) = z
  have f2 : z / 65536 = 256 * (256 * (256 * (256 * (256 * c7 + (c6 + c7)) + (c5 + c6)) + (c4 + c5)) + (c3 + c4)) + (c2 + c3) := by omega
  rw [f2]
  generalize hv : z + (256 * (256 * (256 * (256 * (256 * c7 + (c6 + c7)) + (c5 + c6)) + (c4 + c5)) + (c3 + c4)) + (c2 + c3)) = v
  have hv2 : v = 256 * (256 * (256 * (256 * (256 * (256 * (256 * c7 + (c6 + c7)) + (c5 + c6 + c7)) + (c4 + c5 + c6 + c7)) + (c3 + c4 + c5 + c6)) + (c2 + c3 + c4 + c5)) + (c1 + c2 + c3 + c4)) + (c0 + c1 + c2 + c3) := by omega
  have f3 : v / 4294967296 = 256 * (256 * (256 * c7 + (c6 + c7)) + (c5 + c6 + c7)) + (c4 + c5 + c6 + c7) := by omega
  rw [f3]
  clear hy hz hv f1 f2 f3
  omega
end Go.Proofs.YtfnfiaonaeopkaaDoor
