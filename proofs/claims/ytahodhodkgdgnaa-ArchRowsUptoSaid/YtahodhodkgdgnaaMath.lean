/- Tables of architectures as plain lists; that what is better is an order. -/
import Derived.Test.YtahodhodkgdgnaaText
namespace Go.Proofs.Ytahodhodkgdgnaa
set_option linter.unusedSimpArgs false
set_option linter.unusedVariables false

/-- What stands between names. -/
def isSep (b : UInt8) : Bool := b == 62 || b == 58
/-- A byte of a name. -/
def mayC (c : UInt8) : Bool := decide (97 ≤ c.toNat ∧ c.toNat ≤ 122) || decide (48 ≤ c.toNat ∧ c.toNat ≤ 57) || decide (c.toNat = 95)
def nameB (l : List UInt8) : Bool := l.all mayC && decide (1 ≤ l.length) && decide (l.length ≤ 20)
/-- Names, and their scores. -/
abbrev Tb := List (List UInt8 × Nat)
/-- A name's score, and its place. -/
def findT : Nat → Tb → List UInt8 → Option (Nat × Nat)
  | _, [], _ => none
  | k, p :: r, s => if p.1 = s then some (p.2, k) else findT (k + 1) r s
def scoreT (T : Tb) (s : List UInt8) : Nat := ((findT 0 T s).map (·.1)).getD 0
def okT (T : Tb) (s : List UInt8) : Bool := nameB s && (findT 0 T s).isNone && decide (T.length ≤ 16)
/-- A text is read byte by byte: the table so far, the next score, what of the next name was read. -/
def readT : Tb → Nat → List UInt8 → List UInt8 → Option Tb
  | T, sc, acc, [] => if okT T acc then some (T ++ [(acc, sc)]) else none
  | T, sc, acc, c :: r =>
    if isSep c then (if okT T acc then readT (T ++ [(acc, sc)]) (if c = 62 then sc + 1 else sc) [] r else none)
    else readT T sc (acc ++ [c]) r
def noarch : List UInt8 := [110, 111, 97, 114, 99, 104]
def T0 : Tb := [(noarch, 1)]
def parseT (l : List UInt8) : Option Tb := readT T0 2 [] l
def betterT (T : Tb) (a b : List UInt8) : Int :=
  if scoreT T a = scoreT T b then 0 else if 0 < scoreT T a ∧ (scoreT T b = 0 ∨ scoreT T a < scoreT T b) then -1 else 1

/-! Finding. -/
theorem find_snoc (k : Nat) (T : Tb) (n s : List UInt8) (sc : Nat) : findT k (T ++ [(n, sc)]) s = (findT k T s).or (if n = s then some (sc, k + T.length) else none) := by
  induction T generalizing k with
  | nil => rfl
  | cons p r ih =>
    rw [List.cons_append]
    unfold findT
    by_cases h : p.1 = s
    · rw [if_pos h, if_pos h]; rfl
    · rw [if_neg h, if_neg h, ih, List.length_cons]
      have : k + 1 + r.length = k + (r.length + 1) := by omega
      rw [this]
theorem find_at {k : Nat} {T : Tb} {s : List UInt8} {a b : Nat} (h : findT k T s = some (a, b)) : k ≤ b ∧ T[b - k]? = some (s, a) := by
  induction T generalizing k with
  | nil => cases h
  | cons p r ih =>
    unfold findT at h
    split at h
    · rename_i hp
      simp only [Option.some.injEq, Prod.mk.injEq] at h
      obtain ⟨rfl, rfl⟩ := h
      refine ⟨Nat.le_refl _, ?_⟩
      simp [← hp]
    · obtain ⟨h1, h2⟩ := ih h
      refine ⟨by omega, ?_⟩
      have : b - k = (b - (k + 1)) + 1 := by omega
      rw [this, List.getElem?_cons_succ]
      exact h2
/-- What is true of all tables. -/
structure GoodT (T : Tb) : Prop where
  few : T.length ≤ 17
  one : T[0]? = some (noarch, 1)
  scores : ∀ (k : Nat) (p : List UInt8 × Nat), T[k]? = some p → 1 ≤ p.2 ∧ p.2 ≤ k + 1
  short : ∀ p ∈ T, p.1.length ≤ 20
theorem good0 : GoodT T0 := by
  refine ⟨by decide, rfl, fun k p h => ?_, fun p h => ?_⟩
  · cases k with
    | zero => simp [T0] at h; subst h; exact ⟨Nat.le_refl _, Nat.le_refl _⟩
    | succ k => simp [T0] at h
  · simp [T0] at h; subst h; decide
theorem good_snoc {T : Tb} (h : GoodT T) {n : List UInt8} {sc : Nat} (ho : okT T n = true) (h1 : 1 ≤ sc) (h2 : sc ≤ T.length + 1) : GoodT (T ++ [(n, sc)]) := by
  unfold okT nameB at ho
  simp only [Bool.and_eq_true, decide_eq_true_eq] at ho
  refine ⟨by simp; omega, ?_, fun k p hk => ?_, fun p hp => ?_⟩
  · rw [List.getElem?_append_left]
    · exact h.one
    · have := (List.getElem?_eq_some_iff.1 h.one).1; omega
  · by_cases hlt : k < T.length
    · rw [List.getElem?_append_left hlt] at hk
      exact h.scores k p hk
    · rw [List.getElem?_append_right (by omega)] at hk
      have h0 : k - T.length = 0 := by
        have := (List.getElem?_eq_some_iff.1 hk).1
        simp at this; omega
      rw [h0] at hk
      simp at hk
      subst hk
      exact ⟨h1, by show sc ≤ _; omega⟩
  · rcases List.mem_append.1 hp with hp | hp
    · exact h.short p hp
    · simp at hp; subst hp; exact ho.1.1.2
theorem GoodT.found {T : Tb} (h : GoodT T) {s : List UInt8} {a b : Nat} (hf : findT 0 T s = some (a, b)) : 1 ≤ a ∧ a ≤ 17 ∧ b ≤ 16 := by
  obtain ⟨_, h2⟩ := find_at hf
  have h3 := h.scores _ _ h2
  have h4 := (List.getElem?_eq_some_iff.1 h2).1
  have h5 := h.few
  simp only [Nat.sub_zero] at h3 h4
  omega
theorem GoodT.score_le {T : Tb} (h : GoodT T) (s : List UInt8) : scoreT T s ≤ 17 := by
  unfold scoreT
  cases hf : findT 0 T s with
  | none => simp
  | some p => obtain ⟨a, b⟩ := p; have := h.found hf; simp; omega
theorem GoodT.score_pos {T : Tb} (h : GoodT T) (s : List UInt8) : (findT 0 T s).isSome = decide (0 < scoreT T s) := by
  unfold scoreT
  cases hf : findT 0 T s with
  | none => simp
  | some p => obtain ⟨a, b⟩ := p; have := h.found hf; simp; omega
theorem GoodT.noarch {T : Tb} (h : GoodT T) : scoreT T noarch = 1 := by
  have h1 := h.one
  unfold scoreT
  cases T with
  | nil => cases h1
  | cons p r =>
    simp at h1
    subst h1
    rfl
/-- What reads gives a table. -/
theorem read_good {T : Tb} {sc : Nat} {acc l : List UInt8} (h : GoodT T) (h1 : 1 ≤ sc) (h2 : sc ≤ T.length + 1) {T' : Tb} (hr : readT T sc acc l = some T') : GoodT T' := by
  induction l generalizing T sc acc with
  | nil =>
    unfold readT at hr
    split at hr
    · rename_i ho; injection hr with hr; subst hr; exact good_snoc h ho h1 h2
    · cases hr
  | cons c r ih =>
    unfold readT at hr
    split at hr
    · split at hr
      · rename_i ho
        refine ih (good_snoc h ho h1 h2) ?_ ?_ hr
        · split <;> omega
        · rw [List.length_append]; simp; split <;> omega
      · cases hr
    · exact ih h h1 h2 hr
theorem parse_good {l : List UInt8} {T : Tb} (h : parseT l = some T) : GoodT T := read_good good0 (by decide) (by decide) h

/-! Reading. -/
theorem read_on {T : Tb} {sc : Nat} {acc n r : List UInt8} (h : n.all (fun c => !isSep c) = true) : readT T sc acc (n ++ r) = readT T sc (acc ++ n) r := by
  induction n generalizing acc with
  | nil => simp
  | cons c n ih =>
    simp only [List.all_cons, Bool.and_eq_true, Bool.not_eq_true'] at h
    rw [List.cons_append]
    conv => lhs; unfold readT
    rw [h.1]
    simp only [Bool.false_eq_true, if_false]
    rw [ih h.2, List.append_assoc]
    rfl
theorem read_end {T : Tb} {sc : Nat} {acc : List UInt8} : readT T sc acc [] = if okT T acc then some (T ++ [(acc, sc)]) else none := by unfold readT; rfl
theorem read_sep {T : Tb} {sc : Nat} {acc r : List UInt8} {c : UInt8} (h : isSep c = true) :
    readT T sc acc (c :: r) = if okT T acc then readT (T ++ [(acc, sc)]) (if c = 62 then sc + 1 else sc) [] r else none := by
  conv => lhs; unfold readT
  rw [h]; rfl
theorem read_other {T : Tb} {sc : Nat} {acc r : List UInt8} {c : UInt8} (h : isSep c = false) : readT T sc acc (c :: r) = readT T sc (acc ++ [c]) r := by
  conv => lhs; unfold readT
  rw [h]; rfl
/-- By where the first of what stands between stands. -/
theorem read_cut {T : Tb} {sc : Nat} {l : List UInt8} : readT T sc [] l = readT T sc (l.takeWhile (fun c => !isSep c)) (l.dropWhile (fun c => !isSep c)) := by
  have h : (l.takeWhile (fun c => !isSep c)).all (fun c => !isSep c) = true := by
    rw [List.all_eq_true]
    intro x hx
    induction l with
    | nil => simp at hx
    | cons b l ih =>
      rw [List.takeWhile_cons] at hx
      split at hx
      · rename_i hb
        rcases List.mem_cons.1 hx with rfl | hx
        · exact hb
        · exact ih hx
      · cases hx
  have := read_on (T := T) (sc := sc) (acc := []) (n := l.takeWhile (fun c => !isSep c)) (r := l.dropWhile (fun c => !isSep c)) h
  rw [List.takeWhile_append_dropWhile] at this
  simpa using this

/-! What is better. -/
section
variable (T : Tb) (a b c : List UInt8)
theorem better_range : betterT T a b = -1 ∨ betterT T a b = 0 ∨ betterT T a b = 1 := by
  unfold betterT
  repeat' split
  all_goals simp
theorem better_self : betterT T a a = 0 := by unfold betterT; rw [if_pos rfl]
theorem better_anti : betterT T b a = - betterT T a b := by
  unfold betterT
  repeat' split
  all_goals omega
theorem better_trans : betterT T a b ≤ 0 → betterT T b c ≤ 0 → betterT T a c ≤ 0 := by
  unfold betterT
  repeat' split
  all_goals omega
theorem better_trans' : 0 ≤ betterT T a b → 0 ≤ betterT T b c → 0 ≤ betterT T a c := by
  unfold betterT
  repeat' split
  all_goals omega
theorem better_last : 0 < scoreT T a ∨ 0 ≤ betterT T a b := by
  unfold betterT
  repeat' split
  all_goals omega
theorem better_noarch (h : GoodT T) : betterT T noarch a ≤ 0 := by
  have := h.noarch
  unfold betterT
  repeat' split
  all_goals omega
theorem better_code : betterT T a b = if scoreT T a = 0 ∨ scoreT T b = 0 then (if scoreT T b < scoreT T a then -1 else if scoreT T a < scoreT T b then 1 else 0) else (if scoreT T a < scoreT T b then -1 else if scoreT T b < scoreT T a then 1 else 0) := by
  unfold betterT
  repeat' split
  all_goals omega
end

/-! Names put together. -/
section
variable (nm : Nat → List UInt8) (g : Nat → Bool)
/-- The text of the first k names. -/
def rowsText : Nat → List UInt8
  | 0 => []
  | 1 => nm 0
  | k + 2 => rowsText (k + 1) ++ [if g k then 62 else 58] ++ nm (k + 1)
def rowsScore : Nat → Nat
  | 0 => 2
  | k + 1 => if g k then rowsScore k + 1 else rowsScore k
def rowsPre : Nat → Option Tb
  | 0 => some T0
  | k + 1 => (rowsPre k).bind fun T => if okT T (nm k) then some (T ++ [(nm k, rowsScore g k)]) else none
theorem rows_read (k : Nat) (h : ∀ i, i ≤ k → (nm i).all (fun c => !isSep c) = true) (r : List UInt8) :
    readT T0 2 [] (rowsText nm g (k + 1) ++ r) = (rowsPre nm g k).bind fun T => readT T (rowsScore g k) (nm k) r := by
  induction k generalizing r with
  | zero =>
    show readT T0 2 [] (nm 0 ++ r) = _
    rw [read_on (h 0 (Nat.le_refl _))]
    rfl
  | succ k ih =>
    show readT T0 2 [] (rowsText nm g (k + 1) ++ [if g k then 62 else 58] ++ nm (k + 1) ++ r) = _
    rw [List.append_assoc, List.append_assoc, ih (fun i hi => h i (by omega))]
    show _ = ((rowsPre nm g k).bind fun T => if okT T (nm k) then some (T ++ [(nm k, rowsScore g k)]) else none).bind _
    cases rowsPre nm g k with
    | none => rfl
    | some T =>
      simp only [Option.bind_some]
      rw [List.singleton_append, read_sep (by split <;> decide)]
      split
      · rw [Option.bind_some, read_on (h (k + 1) (Nat.le_refl _)), List.nil_append]
        show _ = readT _ (if g k then rowsScore g k + 1 else rowsScore g k) _ _
        cases g k <;> rfl
      · rfl
theorem rows_parse (k : Nat) (h : ∀ i, i ≤ k → (nm i).all (fun c => !isSep c) = true) : parseT (rowsText nm g (k + 1)) = rowsPre nm g (k + 1) := by
  have := rows_read nm g k h []
  rw [List.append_nil] at this
  show readT T0 2 [] _ = (rowsPre nm g k).bind fun T => if okT T (nm k) then some (T ++ [(nm k, rowsScore g k)]) else none
  rw [this]
  cases rowsPre nm g k with
  | none => rfl
  | some T => simp only [Option.bind_some, read_end]
theorem rows_found (k : Nat) {T : Tb} (h : rowsPre nm g k = some T) (i : Nat) (hi : i < k) : scoreT T (nm i) = rowsScore g i ∧ (findT 0 T (nm i)).isSome = true := by
  induction k generalizing T with
  | zero => omega
  | succ k ih =>
    unfold rowsPre at h
    cases hp : rowsPre nm g k with
    | none => rw [hp] at h; cases h
    | some S =>
      rw [hp, Option.bind_some] at h
      split at h
      · rename_i ho
        injection h with h
        subst h
        by_cases hik : i < k
        · obtain ⟨h1, h2⟩ := ih hp hik
          obtain ⟨x, hx⟩ := Option.isSome_iff_exists.1 h2
          have e : findT 0 (S ++ [(nm k, rowsScore g k)]) (nm i) = findT 0 S (nm i) := by rw [find_snoc, hx]; rfl
          unfold scoreT at h1 ⊢
          rw [e]
          exact ⟨h1, h2⟩
        · have : i = k := by omega
          subst this
          unfold okT at ho
          simp only [Bool.and_eq_true, Option.isNone_iff_eq_none] at ho
          unfold scoreT
          rw [find_snoc, ho.1.2, if_pos rfl]
          exact ⟨rfl, rfl⟩
      · cases h
end
end Go.Proofs.Ytahodhodkgdgnaa
