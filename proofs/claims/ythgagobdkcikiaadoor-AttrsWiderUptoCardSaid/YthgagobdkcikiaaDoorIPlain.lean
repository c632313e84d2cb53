/- Plain facts, of no program: numbers laid as bytes and read again. -/
import Derived.Laws.BitsAllLaws
namespace Go.Proofs.YthgagobdkcikiaaDoor.Ids

/-- A number's bytes: seven bits a byte, the lowest first. The first argument bounds the steps. -/
def putF : Nat → Nat → List Nat
  | 0, n => [n]
  | f + 1, n => if n < 128 then [n] else (n % 128 + 128) :: putF f (n / 128)

/-- What is read from place i on, with the number so far. -/
def takeF : Nat → Nat → List Nat → Nat × Nat × Nat
  | _, _, [] => (0, 0, 10)
  | i, a, c :: r =>
    if i = 9 ∧ 1 < c then (0, 0, 11)
    else if 128 ≤ c then takeF (i + 1) (a + c % 128 * 2 ^ (7 * i)) r
    else if c = 0 ∧ 0 < i then (0, 0, 11) else (a + c % 128 * 2 ^ (7 * i), i + 1, 0)

theorem putF_lt (f n : Nat) (h : n < 128 ^ (f + 1)) : ∀ x ∈ putF f n, x < 256 := by
  induction f generalizing n with
  | zero => intro x hx; simp [putF] at hx; subst hx; simp at h; omega
  | succ f ih =>
    intro x hx
    unfold putF at hx
    by_cases h1 : n < 128
    · rw [if_pos h1] at hx; simp at hx; omega
    · rw [if_neg h1] at hx
      rcases List.mem_cons.1 hx with e | e
      · omega
      · exact ih (n / 128) (by rw [Nat.div_lt_iff_lt_mul (by decide)]; rw [Nat.pow_succ] at h; exact h) x e

theorem putF_len (f n : Nat) : 0 < (putF f n).length ∧ (putF f n).length ≤ f + 1 := by
  induction f generalizing n with
  | zero => simp [putF]
  | succ f ih =>
    unfold putF
    by_cases h1 : n < 128
    · rw [if_pos h1]; simp
    · rw [if_neg h1]; have := ih (n / 128); simp only [List.length_cons]; omega

/-- What was laid is read, whatever stands behind. -/
theorem take_put (f i a n : Nat) (tail : List Nat) (hf : i + f = 9) (hn : n * 2 ^ (7 * i) < 2 ^ 64) (h0 : 0 < i → 0 < n) :
    takeF i a (putF f n ++ tail) = (a + n * 2 ^ (7 * i), i + (putF f n).length, 0) := by
  induction f generalizing i a n with
  | zero =>
    have hi : i = 9 := by omega
    subst hi
    have : n < 2 := by omega
    have h00 := h0 (by omega)
    have : n = 1 := by omega
    subst this
    simp [putF, takeF]
  | succ f ih =>
    have hi9 : i ≠ 9 := by omega
    unfold putF
    by_cases h1 : n < 128
    · rw [if_pos h1]
      simp only [List.cons_append, List.nil_append, takeF]
      rw [if_neg (by omega), if_neg (by omega), if_neg (by rintro ⟨h, h'⟩; have := h0 h'; omega), Nat.mod_eq_of_lt h1]
      simp
    · rw [if_neg h1]
      simp only [List.cons_append, takeF]
      have e1 : (n % 128 + 128) % 128 = n % 128 := by omega
      rw [if_neg (by omega), if_pos (by omega), e1]
      have e2 : 2 ^ (7 * (i + 1)) = 128 * 2 ^ (7 * i) := by
        rw [show 7 * (i + 1) = 7 * i + 7 from by omega, Nat.pow_add]; omega
      have hd := Nat.div_add_mod n 128
      have e3 : n / 128 * 2 ^ (7 * (i + 1)) + n % 128 * 2 ^ (7 * i) = n * 2 ^ (7 * i) := by
        rw [e2, ← Nat.mul_assoc, ← Nat.add_mul]; congr 1; omega
      rw [ih (i + 1) (a + n % 128 * 2 ^ (7 * i)) (n / 128) (by omega) (by omega) (by intro _; omega)]
      simp only [List.length_cons, Prod.mk.injEq]
      exact ⟨by omega, by omega, trivial⟩

theorem take_put0 (n : Nat) (hn : n < 2 ^ 64) (tail : List Nat) : takeF 0 0 (putF 9 n ++ tail) = (n, (putF 9 n).length, 0) := by
  have := take_put 9 0 0 n tail rfl (by simpa using hn) (by omega)
  simpa using this

/-- None of two numbers' bytes begins with the other's. -/
theorem put_apart (n m : Nat) (hn : n < 2 ^ 64) (hm : m < 2 ^ 64) : (putF 9 n <+: putF 9 m) ↔ n = m := by
  constructor
  · rintro ⟨t, ht⟩
    have h1 := take_put0 n hn t
    rw [ht] at h1
    have h2 := take_put0 m hm []
    rw [List.append_nil, h1] at h2
    exact (Prod.mk.injEq .. ▸ h2).1
  · rintro rfl; exact List.prefix_refl _

/-- One step of reading: the seven bits go above those that are there. -/
theorem acc_step (k x y : Nat) (hx : x < 2 ^ (7 * k)) (hy : k ≤ 8 ∨ (k = 9 ∧ y ≤ 1)) :
    bits .or .u64 (x : Int) (IntKind.u64.wrap ((y : Int) % 128 * 2 ^ (7 * k))) = ((x + y % 128 * 2 ^ (7 * k) : Nat) : Int) ∧ x + y % 128 * 2 ^ (7 * k) < 2 ^ (7 * (k + 1)) ∧
      x + y % 128 * 2 ^ (7 * k) < 2 ^ 64 := by
  have hm : y % 128 < 128 := Nat.mod_lt _ (by decide)
  have e2 : 2 ^ (7 * (k + 1)) = 128 * 2 ^ (7 * k) := by
    rw [show 7 * (k + 1) = 7 * k + 7 from by omega, Nat.pow_add]; omega
  have hs : x + y % 128 * 2 ^ (7 * k) < 2 ^ (7 * (k + 1)) := by
    rw [e2]
    have : y % 128 * 2 ^ (7 * k) ≤ 127 * 2 ^ (7 * k) := Nat.mul_le_mul_right _ (by omega)
    omega
  have h64 : x + y % 128 * 2 ^ (7 * k) < 2 ^ 64 := by
    rcases hy with h | ⟨rfl, h⟩
    · exact Nat.lt_of_lt_of_le hs (Nat.pow_le_pow_right (by decide) (by omega))
    · have : y % 128 * 2 ^ (7 * 9) ≤ 1 * 2 ^ (7 * 9) := Nat.mul_le_mul_right _ (by omega)
      simp only [show 7 * 9 = 63 from rfl] at hx this ⊢
      omega
  refine ⟨?_, hs, h64⟩
  have hw : IntKind.u64.wrap ((y : Int) % 128 * 2 ^ (7 * k)) = ((y % 128 * 2 ^ (7 * k) : Nat) : Int) := by
    have e : ((y : Int) % 128 * 2 ^ (7 * k)) = ((y % 128 * 2 ^ (7 * k) : Nat) : Int) := by push_cast; rfl
    rw [e]
    simp only [IntKind.wrap, IntKind.bits, IntKind.signed]
    generalize y % 128 * 2 ^ (7 * k) = z at h64 ⊢
    simp
    omega
  rw [hw, u64_or_nat _ _ (by omega) (by omega)]
  congr 1
  rw [Nat.or_comm, nat_join (7 * k) _ _ (by simp) hx, Nat.add_comm]

end Go.Proofs.YthgagobdkcikiaaDoor.Ids
