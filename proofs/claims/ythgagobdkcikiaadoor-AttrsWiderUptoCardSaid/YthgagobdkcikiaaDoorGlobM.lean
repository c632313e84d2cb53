/- Globs: what it is to fit a pattern, as lists of bytes; tried piece by piece, and put together. -/
import Derived.Test.YthgagobdkcikiaaDoorMem
namespace Go.Proofs.YthgagobdkcikiaaDoor
set_option linter.unusedSimpArgs false
set_option linter.unusedVariables false

/-- A text fits a pattern as a whole. -/
def gm : List UInt8 → List UInt8 → Bool
  | [], t => t.isEmpty
  | c :: p, t => if c = 42 then (List.range (t.length + 1)).any fun k => gm p (t.drop k) else
    match t with
    | [] => false
    | x :: u => (c == 63 || c == x) && gm p u
/-- A piece without stars fits at a text's head. -/
def pm : List UInt8 → List UInt8 → Bool
  | [], _ => true
  | _ :: _, [] => false
  | c :: p, x :: t => (c == 63 || c == x) && pm p t

theorem gm_cons (c : UInt8) (p t : List UInt8) : gm (c :: p) t = if c = 42 then (List.range (t.length + 1)).any fun k => gm p (t.drop k) else
    match t with
    | [] => false
    | x :: u => (c == 63 || c == x) && gm p u := by cases t <;> rfl
theorem gm_nil {t : List UInt8} : gm [] t = true ↔ t = [] := by cases t <;> simp [gm]
theorem gm_star {p t : List UInt8} : gm (42 :: p) t = true ↔ ∃ k, k ≤ t.length ∧ gm p (t.drop k) = true := by
  rw [gm_cons, if_pos rfl, List.any_eq_true]
  constructor
  · rintro ⟨k, hk, h⟩; exact ⟨k, by have := List.mem_range.1 hk; omega, h⟩
  · rintro ⟨k, hk, h⟩; exact ⟨k, List.mem_range.2 (by omega), h⟩
theorem gm_one {c : UInt8} {p t : List UInt8} (hc : c ≠ 42) : gm (c :: p) t = true ↔ ∃ x u, t = x :: u ∧ (c = 63 ∨ c = x) ∧ gm p u = true := by
  rw [gm_cons, if_neg hc]
  cases t with
  | nil => simp
  | cons x u =>
    simp only [Bool.and_eq_true, Bool.or_eq_true, beq_iff_eq]
    constructor
    · intro h; exact ⟨x, u, rfl, h⟩
    · rintro ⟨y, v, e, h⟩; injection e with e1 e2; subst e1; subst e2; exact h
theorem gm_append {p q t : List UInt8} : gm (p ++ q) t = true ↔ ∃ j, j ≤ t.length ∧ gm p (t.take j) = true ∧ gm q (t.drop j) = true := by
  induction p generalizing t with
  | nil =>
    rw [List.nil_append]
    constructor
    · intro h; exact ⟨0, Nat.zero_le _, by simp [gm], by simpa using h⟩
    · rintro ⟨j, hj, h1, h2⟩
      rw [gm_nil] at h1
      have : j = 0 := by
        have := congrArg List.length h1
        simp at this
        rcases this with h | h
        · exact h
        · subst h; simpa using hj
      subst this
      simpa using h2
  | cons c p ih =>
    rw [List.cons_append]
    by_cases hc : c = 42
    · subst hc
      rw [gm_star]
      constructor
      · rintro ⟨k, hk, h⟩
        obtain ⟨j, hj, h1, h2⟩ := ih.1 h
        rw [List.length_drop] at hj
        refine ⟨k + j, by omega, gm_star.2 ⟨k, by rw [List.length_take]; omega, ?_⟩, by rw [← List.drop_drop]; exact h2⟩
        rw [List.drop_take, show k + j - k = j from by omega]
        exact h1
      · rintro ⟨j, hj, h1, h2⟩
        obtain ⟨k, hk, h1⟩ := gm_star.1 h1
        rw [List.length_take] at hk
        refine ⟨k, by omega, ih.2 ⟨j - k, by rw [List.length_drop]; omega, ?_, ?_⟩⟩
        · rw [List.drop_take] at h1; exact h1
        · rw [List.drop_drop, show k + (j - k) = j from by omega]; exact h2
    · rw [gm_one hc]
      constructor
      · rintro ⟨x, u, rfl, h0, h⟩
        obtain ⟨j, hj, h1, h2⟩ := ih.1 h
        exact ⟨j + 1, by simp; omega, (gm_one hc).2 ⟨x, u.take j, rfl, h0, h1⟩, h2⟩
      · rintro ⟨j, hj, h1, h2⟩
        obtain ⟨x, u, he, h0, h1⟩ := (gm_one hc).1 h1
        cases t with
        | nil => simp at he
        | cons y t =>
          cases j with
          | zero => simp at he
          | succ j =>
            simp at he
            obtain ⟨rfl, rfl⟩ := he
            exact ⟨y, t, rfl, h0, ih.2 ⟨j, by simpa using hj, h1, h2⟩⟩
theorem gm_two {p q s t : List UInt8} (h1 : gm p s = true) (h2 : gm q t = true) : gm (p ++ q) (s ++ t) = true :=
  gm_append.2 ⟨s.length, by simp, by simpa using h1, by simpa using h2⟩
theorem gm_any (t : List UInt8) : gm [42] t = true := gm_star.2 ⟨t.length, Nat.le_refl _, by simp [gm]⟩
theorem gm_self {s : List UInt8} (h : ∀ c, c ∈ s → c ≠ 42) : gm s s = true := by
  induction s with
  | nil => rfl
  | cons c s ih => exact (gm_one (h c (by simp))).2 ⟨c, s, rfl, .inr rfl, ih fun c hc => h c (by simp [hc])⟩
theorem gm_suffix {p t : List UInt8} {k : Nat} (h : gm (42 :: p) (t.drop k) = true) : gm (42 :: p) t = true := by
  obtain ⟨j, hj, h⟩ := gm_star.1 h
  rw [List.length_drop] at hj
  rw [List.drop_drop] at h
  rcases Nat.lt_or_ge t.length (k + j) with hl | hl
  · refine gm_star.2 ⟨t.length, Nat.le_refl _, ?_⟩
    rw [List.drop_eq_nil_of_le (by omega)] at h
    simpa using h
  · exact gm_star.2 ⟨k + j, hl, h⟩

theorem pm_iff {p t : List UInt8} : pm p t = true ↔ p.length ≤ t.length ∧ ∀ (i : Nat) (c : UInt8), p[i]? = some c → c = 63 ∨ t[i]? = some c := by
  induction p generalizing t with
  | nil => simp [pm]
  | cons c p ih =>
    cases t with
    | nil => simp [pm]
    | cons x t =>
      rw [pm, Bool.and_eq_true, ih]
      constructor
      · rintro ⟨h0, h1, h2⟩
        refine ⟨by simpa using h1, fun i d hd => ?_⟩
        cases i with
        | zero =>
          simp at hd; subst hd
          rcases Bool.or_eq_true _ _ ▸ h0 with h | h
          · exact .inl (by simpa using h)
          · right
            have : c = x := by simpa using h
            rw [this]; rfl
        | succ i => simpa using h2 i d (by simpa using hd)
      · rintro ⟨h1, h2⟩
        refine ⟨?_, by simpa using h1, fun i d hd => ?_⟩
        · rw [Bool.or_eq_true]
          rcases h2 0 c rfl with h | h
          · exact .inl (by simpa using h)
          · right
            have : x = c := by simpa using h
            rw [this]; simp
        · simpa using h2 (i + 1) d (by simpa using hd)
theorem gm_piece {p q t : List UInt8} (h : ∀ c, c ∈ p → c ≠ 42) : gm (p ++ q) t = (pm p t && gm q (t.drop p.length)) := by
  induction p generalizing t with
  | nil => simp [pm]
  | cons c p ih =>
    rw [List.cons_append, gm_cons, if_neg (h c (by simp))]
    cases t with
    | nil => simp [pm]
    | cons x t =>
      simp only [pm]
      rw [ih fun c hc => h c (by simp [hc])]
      simp [Bool.and_assoc]
theorem gm_plain {p t : List UInt8} (h : ∀ c, c ∈ p → c ≠ 42) : gm p t = (pm p t && decide (t.length = p.length)) := by
  have e := gm_piece (q := []) (t := t) h
  rw [List.append_nil] at e
  rw [e]
  by_cases hp : pm p t = true
  · have hl := (pm_iff.1 hp).1
    rw [hp, Bool.true_and, Bool.true_and, Bool.eq_iff_iff, gm_nil, List.drop_eq_nil_iff, decide_eq_true_eq]
    omega
  · simp [hp]

/-- What the code asks of what is left: of the first piece, or of a later one. -/
def gmF (first : Bool) (p t : List UInt8) : Bool := if first then gm p t else gm (42 :: p) t
theorem gmF_last_first {p t : List UInt8} (h : ∀ c, c ∈ p → c ≠ 42) : gmF true p t = (pm p t && decide (t.length = p.length)) := gm_plain h
/-- The last piece, not the first: it stands at the end. -/
theorem gmF_last {p t : List UInt8} (h : ∀ c, c ∈ p → c ≠ 42) : gmF false p t = (decide (p.length ≤ t.length) && pm p (t.drop (t.length - p.length))) := by
  rw [Bool.eq_iff_iff]
  show gm (42 :: p) t = true ↔ _
  rw [gm_star]
  simp only [Bool.and_eq_true, decide_eq_true_eq]
  constructor
  · rintro ⟨k, hk, h1⟩
    rw [gm_plain h, Bool.and_eq_true, decide_eq_true_eq, List.length_drop] at h1
    refine ⟨by omega, ?_⟩
    rw [show t.length - p.length = k from by omega]
    exact h1.1
  · rintro ⟨h0, h1⟩
    refine ⟨t.length - p.length, by omega, ?_⟩
    rw [gm_plain h, h1, Bool.true_and, decide_eq_true_eq, List.length_drop]
    omega
/-- The first piece, a star behind it. -/
theorem gmF_first {p q t : List UInt8} (h : ∀ c, c ∈ p → c ≠ 42) : gmF true (p ++ 42 :: q) t = (pm p t && gmF false q (t.drop p.length)) := gm_piece h
/-- A later piece, a star behind it: at the first place where it fits. -/
theorem gmF_at {p q t : List UInt8} (h : ∀ c, c ∈ p → c ≠ 42) {k : Nat} (hk : pm p (t.drop k) = true) (hn : ∀ j, j < k → pm p (t.drop j) = false) :
    gmF false (p ++ 42 :: q) t = gmF false q (t.drop (k + p.length)) := by
  rw [Bool.eq_iff_iff]
  show gm (42 :: (p ++ 42 :: q)) t = true ↔ gm (42 :: q) _ = true
  rw [gm_star]
  constructor
  · rintro ⟨j, hj, h1⟩
    rw [gm_piece h, Bool.and_eq_true, List.drop_drop] at h1
    have hjk : k ≤ j := by
      rcases Nat.lt_or_ge j k with hl | hl
      · have := hn j hl; rw [h1.1] at this; cases this
      · exact hl
    refine gm_suffix (k := j - k) ?_
    rw [List.drop_drop, show k + p.length + (j - k) = j + p.length from by omega]
    exact h1.2
  · intro h1
    have hl := (pm_iff.1 hk).1
    rcases Nat.lt_or_ge t.length k with hkl | hkl
    · rw [List.drop_eq_nil_of_le (by omega)] at hk
      rw [List.drop_eq_nil_of_le (by omega)] at h1
      refine ⟨t.length, Nat.le_refl _, ?_⟩
      rw [gm_piece h, Bool.and_eq_true, List.drop_drop, List.drop_eq_nil_of_le (Nat.le_refl _), List.drop_eq_nil_of_le (by omega)]
      exact ⟨hk, h1⟩
    · refine ⟨k, hkl, ?_⟩
      rw [gm_piece h, hk, Bool.true_and, List.drop_drop]
      exact h1
theorem gmF_none {p q t : List UInt8} (h : ∀ c, c ∈ p → c ≠ 42) (hn : ∀ j, j ≤ t.length → pm p (t.drop j) = false) : gmF false (p ++ 42 :: q) t = false := by
  rw [Bool.eq_false_iff]
  intro hg
  obtain ⟨k, hk, h1⟩ := gm_star.1 (show gm (42 :: (p ++ 42 :: q)) t = true from hg)
  rw [gm_piece h, hn k hk] at h1
  cases h1

/-! Prefix by prefix. -/
theorem gm_snoc_star {p t : List UInt8} : gm (p ++ [42]) t = true ↔ ∃ j, j ≤ t.length ∧ gm p (t.take j) = true := by
  rw [gm_append]
  constructor
  · rintro ⟨j, hj, h1, _⟩; exact ⟨j, hj, h1⟩
  · rintro ⟨j, hj, h1⟩; exact ⟨j, hj, h1, gm_any _⟩
theorem gm_dp_star {p s : List UInt8} {k : Nat} (hk : k ≤ s.length) : gm (p ++ [42]) (s.take k) = (gm p (s.take k) || (decide (0 < k) && gm (p ++ [42]) (s.take (k - 1)))) := by
  rw [Bool.eq_iff_iff, Bool.or_eq_true, Bool.and_eq_true, gm_snoc_star, gm_snoc_star, decide_eq_true_eq]
  simp only [List.length_take, List.take_take]
  constructor
  · rintro ⟨j, hj, h⟩
    rcases Nat.lt_or_ge j k with hl | hl
    · exact .inr ⟨by omega, j, by omega, by rw [Nat.min_eq_left (by omega)] at h ⊢; exact h⟩
    · left; rw [Nat.min_eq_right hl] at h; exact h
  · rintro (h | ⟨h0, j, hj, h⟩)
    · exact ⟨k, by omega, by rw [Nat.min_self]; exact h⟩
    · exact ⟨j, by omega, by rw [Nat.min_eq_left (by omega)] at h ⊢; exact h⟩
theorem gm_dp_one {p s : List UInt8} {c : UInt8} (hc : c ≠ 42) {k : Nat} (hk : k ≤ s.length) :
    gm (p ++ [c]) (s.take k) = (decide (0 < k) && gm p (s.take (k - 1)) && (c == 63 || decide (s[k - 1]? = some c))) := by
  rw [Bool.eq_iff_iff, gm_append]
  simp only [Bool.and_eq_true, decide_eq_true_eq, Bool.or_eq_true, beq_iff_eq, List.length_take, List.take_take]
  constructor
  · rintro ⟨j, hj, h1, h2⟩
    obtain ⟨x, u, he, h0, h3⟩ := (gm_one hc).1 h2
    rw [gm_nil] at h3
    subst h3
    have hl := congrArg List.length he
    simp at hl
    have hj' : j = k - 1 := by omega
    subst hj'
    refine ⟨⟨by omega, by rw [Nat.min_eq_left (by omega)] at h1; exact h1⟩, h0.imp id fun e => ?_⟩
    subst e
    have h4 : ((s.take k).drop (k - 1))[0]? = some c := by rw [he]; rfl
    rw [List.getElem?_drop, List.getElem?_take] at h4
    simpa [show k - 1 < k from by omega] using h4
  · rintro ⟨⟨h0, h1⟩, h2⟩
    refine ⟨k - 1, by omega, by rw [Nat.min_eq_left (by omega)]; exact h1, (gm_one hc).2 ⟨s[k - 1]'(by omega), [], ?_, ?_, by simp [gm]⟩⟩
    · apply List.ext_getElem
      · simp; omega
      · intro i h3 h4
        simp at h4
        subst h4
        simp
    · refine h2.imp id fun e => ?_
      rw [List.getElem?_eq_getElem (by omega)] at e
      simpa using e.symm
theorem gm_dp_zero {s : List UInt8} {k : Nat} (hk : k ≤ s.length) : gm [] (s.take k) = decide (k = 0) := by
  rw [Bool.eq_iff_iff, gm_nil, decide_eq_true_eq, List.take_eq_nil_iff]
  constructor
  · rintro (h | h)
    · exact h
    · subst h; simpa using hk
  · exact .inl
end Go.Proofs.YthgagobdkcikiaaDoor
