/- Comparisons of versions as plain functions of lists of bytes, and that they are orders. -/
namespace Go.Proofs.YtciogfpejenedaaGreatDoor
set_option linter.unusedSimpArgs false
set_option linter.unusedVariables false

/-- The sign of a difference. -/
def cmpI (a b : Int) : Int := if a < b then -1 else if b < a then 1 else 0
/-- The first that is not nought. -/
def thenC (x y : Int) : Int := if x = 0 then y else x
/-- Lists of bytes, as texts are compared. -/
def cmpL : List UInt8 → List UInt8 → Int
  | [], [] => 0
  | [], _ :: _ => -1
  | _ :: _, [] => 1
  | a :: as, b :: bs => if a < b then -1 else if b < a then 1 else cmpL as bs

structure Ordr {α : Type} (c : α → α → Int) : Prop where
  range : ∀ a b, c a b = -1 ∨ c a b = 0 ∨ c a b = 1
  anti : ∀ a b, c b a = - c a b
  trans : ∀ a b d, c a b ≤ 0 → c b d ≤ 0 → c a d ≤ 0

section
variable {α β : Type} {c d : α → α → Int}
theorem Ordr.self (h : Ordr c) (a : α) : c a a = 0 := by have := h.anti a a; omega
theorem Ordr.comap (h : Ordr c) (f : β → α) : Ordr fun a b => c (f a) (f b) :=
  ⟨fun _ _ => h.range _ _, fun _ _ => h.anti _ _, fun _ _ _ => h.trans _ _ _⟩
theorem Ordr.then_ (h : Ordr c) (k : Ordr d) : Ordr fun a b => thenC (c a b) (d a b) := by
  refine ⟨fun a b => ?_, fun a b => ?_, fun a b e => ?_⟩
  · simp only [thenC]; split
    · exact k.range a b
    · exact h.range a b
  · have h1 := h.anti a b
    have k1 := k.anti a b
    simp only [thenC]; split <;> split <;> omega
  · have h1 := h.trans a b e
    have h2 := h.trans b e a
    have h3 := h.trans e a b
    have k1 := k.trans a b e
    have a1 := h.anti a b
    have a2 := h.anti b e
    have a3 := h.anti a e
    have a4 := h.anti e a
    simp only [thenC]
    intro p q
    split at p <;> split at q <;> split <;> first | omega | (exact k1 p q) | skip
/-- What follows of two that are equal, and the other way round. -/
theorem Ordr.same (h : Ordr c) {a b : α} (e : c a b = 0) (x : α) : c a x = c b x := by
  have a1 := h.anti a b
  have h1 := h.trans a b x
  have h2 := h.trans b a x
  have h3 := h.trans x a b
  have h4 := h.trans x b a
  have r1 := h.range a x
  have r2 := h.range b x
  have b1 := h.anti a x
  have b2 := h.anti b x
  omega
theorem Ordr.same' (h : Ordr c) {a b : α} (e : c a b = 0) (x : α) : c x a = c x b := by
  have a1 := h.anti a x
  have a2 := h.anti b x
  have := h.same e x
  omega
theorem Ordr.trans' (h : Ordr c) (a b d : α) (p : 0 ≤ c a b) (q : 0 ≤ c b d) : 0 ≤ c a d := by
  have a1 := h.anti a b
  have a2 := h.anti b d
  have a3 := h.anti a d
  have := h.trans d b a
  omega
end
theorem ordI : Ordr cmpI := by
  refine ⟨fun a b => ?_, fun a b => ?_, fun a b d => ?_⟩
  · unfold cmpI; split <;> (try split) <;> simp
  · unfold cmpI; split <;> split <;> (try split) <;> omega
  · unfold cmpI; intro p q; split at p <;> split at q <;> split <;> (try split) <;> (try split at p) <;> (try split at q) <;> omega
theorem ordL : Ordr cmpL := by
  refine ⟨fun a => ?_, fun a => ?_, fun a => ?_⟩
  · induction a with
    | nil => intro b; cases b <;> simp [cmpL]
    | cons x a ih => intro b; cases b with
      | nil => simp [cmpL]
      | cons y b => simp only [cmpL]; split <;> (try split) <;> first | exact ih b | simp
  · induction a with
    | nil => intro b; cases b <;> simp [cmpL]
    | cons x a ih => intro b; cases b with
      | nil => simp [cmpL]
      | cons y b =>
        simp only [cmpL, UInt8.lt_iff_toNat_lt]
        split <;> split <;> (try split) <;> first | omega | exact ih b
  · induction a with
    | nil => intro b d; cases d <;> simp [cmpL]
    | cons x a ih => intro b d; cases b with
      | nil => intro h; simp [cmpL] at h
      | cons y b => cases d with
        | nil => intro _ h; simp [cmpL] at h
        | cons z d =>
          have := ih b d
          simp only [cmpL, UInt8.lt_iff_toNat_lt]
          intro p q
          split at p <;> split at q <;> split <;> (try split) <;> (try split at p) <;> (try split at q) <;> omega

/-! Bytes. -/
def isDg (c : UInt8) : Bool := decide (48 ≤ c.toNat) && decide (c.toNat ≤ 57)
def isLt (c : UInt8) : Bool := decide (97 ≤ c.toNat) && decide (c.toNat ≤ 122) || decide (65 ≤ c.toNat) && decide (c.toNat ≤ 90)
def isIdle (c : UInt8) : Bool := !isDg c && !isLt c && !decide (c.toNat = 126) && !decide (c.toNat = 94)
def isMay (c : UInt8) : Bool := isDg c || isLt c || decide (c ∈ [46, 95, 43, 126, 94, 45, 58])

/-- Numbers as their digits, noughts ahead left out. -/
def nz (l : List UInt8) : List UInt8 := l.dropWhile (· == 48)
def cmpNum (a b : List UInt8) : Int := thenC (cmpI (nz a).length (nz b).length) (cmpL (nz a) (nz b))
theorem ordNum : Ordr cmpNum := (ordI.comap fun a : List UInt8 => ((nz a).length : Int)).then_ (ordL.comap nz)

/-! Going through two texts part by part. -/
section
variable (T : List UInt8 → List UInt8 → Int) (R : List UInt8 → List UInt8)
def through : Nat → List UInt8 → List UInt8 → Int
  | 0, _, _ => 0
  | n + 1, a, b => thenC (T a b) (through n (R a) (R b))
def thr (a b : List UInt8) : Int := through T R (a.length + b.length + 1) a b
theorem ord_through (h : Ordr T) : ∀ n, Ordr (through T R n)
  | 0 => ⟨fun _ _ => .inr (.inl rfl), fun _ _ => rfl, fun _ _ _ _ _ => Int.le_refl 0⟩
  | n + 1 => h.then_ ((ord_through h n).comap R)
variable {T R}
theorem through_nil (h0 : T [] [] = 0) (hr : R [] = []) : ∀ n, through T R n [] [] = 0
  | 0 => rfl
  | n + 1 => by simp [through, thenC, h0, hr, through_nil h0 hr n]
theorem through_more (h0 : T [] [] = 0) (hr : R [] = []) (hs : ∀ a, a ≠ [] → (R a).length < a.length) : ∀ (n : Nat) (a b : List UInt8), a.length + b.length ≤ n → ∀ m, n ≤ m → through T R m a b = through T R n a b := by
  have le : ∀ a, (R a).length ≤ a.length := fun a => by
    by_cases h : a = []
    · subst h; simp [hr]
    · exact Nat.le_of_lt (hs a h)
  intro n
  induction n with
  | zero =>
    intro a b hab m _
    have ha : a = [] := List.eq_nil_of_length_eq_zero (by omega)
    have hb : b = [] := List.eq_nil_of_length_eq_zero (by omega)
    subst ha; subst hb
    rw [through_nil h0 hr, through_nil h0 hr]
  | succ n ih =>
    intro a b hab m hm
    cases m with
    | zero => omega
    | succ m =>
      by_cases h : a = [] ∧ b = []
      · obtain ⟨rfl, rfl⟩ := h
        rw [through_nil h0 hr, through_nil h0 hr]
      · have hlt : (R a).length + (R b).length < a.length + b.length := by
          have h1 := le a
          have h2 := le b
          by_cases ha : a = []
          · have := hs b (fun hb => h ⟨ha, hb⟩); omega
          · have := hs a ha; omega
        simp only [through]
        rw [ih (R a) (R b) (by omega) m (by omega)]
theorem thr_eq (h0 : T [] [] = 0) (hr : R [] = []) (hs : ∀ a, a ≠ [] → (R a).length < a.length) {n : Nat} {a b : List UInt8} (h : a.length + b.length ≤ n) : thr T R a b = through T R n a b := by
  unfold thr
  rcases Nat.le_total n (a.length + b.length + 1) with h1 | h1
  · exact through_more h0 hr hs n a b h _ h1
  · exact (through_more h0 hr hs _ a b (by omega) n h1).symm
theorem thr_step (h0 : T [] [] = 0) (hr : R [] = []) (hs : ∀ a, a ≠ [] → (R a).length < a.length) (a b : List UInt8) : thr T R a b = thenC (T a b) (thr T R (R a) (R b)) := by
  have le : ∀ a, (R a).length ≤ a.length := fun a => by
    by_cases h : a = []
    · subst h; simp [hr]
    · exact Nat.le_of_lt (hs a h)
  have h1 := le a
  have h2 := le b
  rw [thr_eq (n := a.length + b.length) h0 hr hs (a := R a) (b := R b) (by omega)]
  rfl
theorem ord_thr (h0 : T [] [] = 0) (hr : R [] = []) (hs : ∀ a, a ≠ [] → (R a).length < a.length) (h : Ordr T) : Ordr (thr T R) := by
  have e : ∀ a b n, a.length + b.length ≤ n → thr T R a b = through T R n a b := fun a b n hn => thr_eq h0 hr hs hn
  refine ⟨fun a b => ?_, fun a b => ?_, fun a b d => ?_⟩
  · exact (ord_through T R h _).range a b
  · rw [e b a (a.length + b.length) (by omega), e a b (a.length + b.length) (by omega)]; exact (ord_through T R h _).anti a b
  · rw [e a b (a.length + b.length + d.length) (by omega), e b d (a.length + b.length + d.length) (by omega), e a d (a.length + b.length + d.length) (by omega)]
    exact (ord_through T R h _).trans a b d
end

/-! Rpm's texts. -/
def strip (l : List UInt8) : List UInt8 := l.dropWhile isIdle
def rankR : List UInt8 → Int
  | [] => 1
  | c :: _ => if c.toNat = 126 then 0 else if c.toNat = 94 then 2 else if isDg c then 4 else 3
def numP (l : List UInt8) : List UInt8 := l.takeWhile isDg
def letP (l : List UInt8) : List UInt8 := l.takeWhile isLt
def tokR (a b : List UInt8) : Int := thenC (cmpI (rankR (strip a)) (rankR (strip b))) (thenC (cmpNum (numP (strip a)) (numP (strip b))) (cmpL (letP (strip a)) (letP (strip b))))
def nextR (a : List UInt8) : List UInt8 :=
  if rankR (strip a) = 4 then (strip a).dropWhile isDg else if rankR (strip a) = 3 then (strip a).dropWhile isLt else (strip a).tail
def cmpRpm : List UInt8 → List UInt8 → Int := thr tokR nextR
theorem ord_tokR : Ordr tokR :=
  (ordI.comap fun a => rankR (strip a)).then_ ((ordNum.comap fun a => numP (strip a)).then_ (ordL.comap fun a => letP (strip a)))
theorem dropWhile_le {α : Type} (p : α → Bool) (l : List α) : (l.dropWhile p).length ≤ l.length := (List.dropWhile_suffix p).length_le
theorem dropWhile_head {α : Type} (p : α → Bool) {l r : List α} {c : α} (h : l.dropWhile p = c :: r) : p c = false := by
  induction l with
  | nil => cases h
  | cons x l ih =>
    rw [List.dropWhile_cons] at h
    split at h
    · exact ih h
    · rename_i hx; injection h with h1 h2; subst h1; simpa using hx
theorem rank_cases {c : UInt8} (h : isIdle c = false) : c.toNat = 126 ∨ c.toNat = 94 ∨ isDg c = true ∨ isLt c = true := by
  unfold isIdle at h
  cases h1 : isDg c <;> cases h2 : isLt c <;> simp_all
  omega
theorem nextR_short (a : List UInt8) (h : a ≠ []) : (nextR a).length < a.length := by
  have hs := dropWhile_le isIdle a
  unfold nextR
  cases hc : strip a with
  | nil =>
    have : 0 < a.length := List.length_pos_iff.2 h
    simp [rankR]; exact this
  | cons c r =>
    have hi := dropWhile_head isIdle hc
    have hl : r.length + 1 ≤ a.length := by have := hs; unfold strip at hc; rw [hc] at this; simpa using this
    have d1 := dropWhile_le isDg r
    have d2 := dropWhile_le isLt r
    have k := rank_cases hi
    split
    · rename_i h4
      have hd : isDg c = true := by
        simp only [rankR] at h4
        split at h4
        · cases h4
        · split at h4
          · cases h4
          · split at h4
            · assumption
            · cases h4
      rw [List.dropWhile_cons, if_pos hd]; omega
    · split
      · rename_i h4 h3
        have hd : isLt c = true := by
          simp only [rankR] at h3
          rcases k with k | k | k | k
          · simp [k] at h3
          · simp [k] at h3
          · exact absurd h4 (by simp only [rankR]; split at h3 <;> first | cases h3 | (split at h3 <;> first | cases h3 | (rw [if_pos k] at h3; cases h3)))
          · exact k
        rw [List.dropWhile_cons, if_pos hd]; omega
      · simp; omega
theorem rpm_step (a b : List UInt8) : cmpRpm a b = thenC (tokR a b) (cmpRpm (nextR a) (nextR b)) := thr_step (by decide) rfl nextR_short a b
theorem ord_rpm : Ordr cmpRpm := ord_thr (by decide) rfl nextR_short ord_tokR

theorem cmpI_self (a : Int) : cmpI a a = 0 := ordI.self a
theorem cmpI_ne {a b : Int} (h : a ≠ b) : cmpI a b ≠ 0 := by unfold cmpI; split <;> (try split) <;> omega
theorem thenC_ne {x : Int} (h : x ≠ 0) (y : Int) : thenC x y = x := by unfold thenC; rw [if_neg h]
theorem thenC_zero (y : Int) : thenC 0 y = y := by unfold thenC; rw [if_pos rfl]
theorem rpm_nil' : cmpRpm [] [] = 0 := ord_rpm.self []
theorem numR_nil {l : List UInt8} (h : rankR l ≠ 4) : numP l = [] := by
  cases l with
  | nil => rfl
  | cons c r =>
    cases hd : isDg c with
    | true =>
      exfalso
      apply h
      have h2 := hd
      unfold isDg at h2
      simp at h2
      simp only [rankR, hd]
      rw [if_neg (by omega), if_neg (by omega)]
      rfl
    | false => simp [numP, hd]
theorem letR_nil {l : List UInt8} (h : rankR l ≠ 3) : letP l = [] := by
  cases l with
  | nil => rfl
  | cons c r =>
    cases hl : isLt c with
    | true =>
      exfalso
      apply h
      have h2 := hl
      unfold isLt at h2
      simp at h2
      have hd : isDg c = false := by unfold isDg; simp; omega
      simp only [rankR, hd]
      rw [if_neg (by omega), if_neg (by omega)]
      rfl
    | false => simp [letP, hl]
theorem rank_nil {l : List UInt8} (h : rankR l = 1) : l = [] := by
  cases l with
  | nil => rfl
  | cons c r =>
    exfalso
    simp only [rankR] at h
    split at h
    · cases h
    · split at h
      · cases h
      · split at h <;> cases h
theorem rpm_ne {a b : List UInt8} (h : rankR (strip a) ≠ rankR (strip b)) : cmpRpm a b = cmpI (rankR (strip a)) (rankR (strip b)) := by
  rw [rpm_step]; unfold tokR
  rw [thenC_ne (cmpI_ne h), thenC_ne (cmpI_ne h)]
theorem rpm_end {a b : List UInt8} (h : rankR (strip a) = 1) (h' : rankR (strip b) = 1) : cmpRpm a b = 0 := by
  rw [rpm_step]; unfold tokR nextR
  rw [rank_nil h, rank_nil h']
  exact rpm_nil'
theorem rpm_tail {a b : List UInt8} (h : rankR (strip a) = rankR (strip b)) (h0 : rankR (strip b) = 0 ∨ rankR (strip b) = 2) : cmpRpm a b = cmpRpm (strip a).tail (strip b).tail ∧ strip a ≠ [] ∧ strip b ≠ [] := by
  refine ⟨?_, fun e => ?_, fun e => ?_⟩
  · rw [rpm_step]; unfold tokR nextR
    rw [numR_nil (by rw [h]; omega), numR_nil (by omega), letR_nil (by rw [h]; omega), letR_nil (by omega), h, cmpI_self, thenC_zero]
    rw [if_neg (by omega), if_neg (by omega), if_neg (by omega), if_neg (by omega)]
    rfl
  · rw [← h, e] at h0; rcases h0 with h0 | h0 <;> cases h0
  · rw [e] at h0; rcases h0 with h0 | h0 <;> cases h0
theorem rpm_num {a b : List UInt8} (h : rankR (strip a) = 4) (h' : rankR (strip b) = 4) (hc : cmpNum (numP (strip a)) (numP (strip b)) ≠ 0) : cmpRpm a b = cmpNum (numP (strip a)) (numP (strip b)) := by
  rw [rpm_step]; unfold tokR
  rw [h, h', cmpI_self, thenC_zero, thenC_ne hc, thenC_ne hc]
theorem rpm_num0 {a b : List UInt8} (h : rankR (strip a) = 4) (h' : rankR (strip b) = 4) (hc : cmpNum (numP (strip a)) (numP (strip b)) = 0) : cmpRpm a b = cmpRpm ((strip a).dropWhile isDg) ((strip b).dropWhile isDg) := by
  rw [rpm_step]; unfold tokR nextR
  rw [letR_nil (by omega), letR_nil (by omega), h, h', cmpI_self, thenC_zero, hc, thenC_zero]
  rw [if_pos rfl, if_pos rfl]
  rfl
theorem rpm_let {a b : List UInt8} (h : rankR (strip a) = 3) (h' : rankR (strip b) = 3) (hc : cmpL (letP (strip a)) (letP (strip b)) ≠ 0) : cmpRpm a b = cmpL (letP (strip a)) (letP (strip b)) := by
  rw [rpm_step]; unfold tokR
  rw [numR_nil (by omega), numR_nil (by omega), h, h', cmpI_self, thenC_zero]
  rw [show cmpNum [] [] = 0 from rfl, thenC_zero, thenC_ne hc]
theorem rpm_let0 {a b : List UInt8} (h : rankR (strip a) = 3) (h' : rankR (strip b) = 3) (hc : cmpL (letP (strip a)) (letP (strip b)) = 0) : cmpRpm a b = cmpRpm ((strip a).dropWhile isLt) ((strip b).dropWhile isLt) := by
  rw [rpm_step]; unfold tokR nextR
  rw [numR_nil (by omega), numR_nil (by omega), h, h', cmpI_self, thenC_zero, hc]
  rw [show cmpNum [] [] = 0 from rfl, thenC_zero, thenC_zero]
  rfl
theorem rank_kinds (a : List UInt8) : rankR (strip a) = 0 ∨ rankR (strip a) = 1 ∨ rankR (strip a) = 2 ∨ rankR (strip a) = 3 ∨ rankR (strip a) = 4 := by
  cases strip a with
  | nil => simp [rankR]
  | cons c r => simp only [rankR]; split <;> (try split) <;> (try split) <;> simp
theorem rpm_less4 {a : List UInt8} (h : rankR (strip a) = 4) : ((strip a).dropWhile isDg).length < a.length := by
  have h1 := nextR_short a (fun e => by rw [e] at h; cases h)
  unfold nextR at h1
  rwa [if_pos h] at h1
theorem rpm_less3 {a : List UInt8} (h : rankR (strip a) = 3) : ((strip a).dropWhile isLt).length < a.length := by
  have h1 := nextR_short a (fun e => by rw [e] at h; cases h)
  unfold nextR at h1
  rwa [if_neg (by omega), if_pos h] at h1
theorem strip_le (a : List UInt8) : (strip a).length ≤ a.length := dropWhile_le _ _

/-! Debian's texts. -/
def rankD : List UInt8 → Int
  | [] => 0
  | c :: _ => if isDg c then 0 else if c.toNat = 126 then -1 else if isLt c then c.toNat else 256 + c.toNat
def tokD (a b : List UInt8) : Int := thenC (cmpI (rankD a) (rankD b)) (cmpNum (numP a) (numP b))
def nextD (a : List UInt8) : List UInt8 := if rankD a = 0 then a.dropWhile isDg else a.tail
def cmpDeb : List UInt8 → List UInt8 → Int := thr tokD nextD
theorem ord_tokD : Ordr tokD := (ordI.comap rankD).then_ (ordNum.comap numP)
theorem rankD_zero {c : UInt8} {r : List UInt8} (h : rankD (c :: r) = 0) : isDg c = true := by
  simp only [rankD] at h
  cases hd : isDg c with
  | true => rfl
  | false =>
    rw [hd] at h
    simp only [Bool.false_eq_true, if_false] at h
    split at h
    · cases h
    · split at h
      · rename_i h2
        unfold isLt at h2
        simp at h2
        omega
      · omega
theorem nextD_short (a : List UInt8) (h : a ≠ []) : (nextD a).length < a.length := by
  cases a with
  | nil => exact absurd rfl h
  | cons c r =>
    unfold nextD
    split
    · rename_i h0
      have d1 := dropWhile_le isDg r
      rw [List.dropWhile_cons, if_pos (rankD_zero h0)]
      simp; omega
    · simp
theorem deb_step (a b : List UInt8) : cmpDeb a b = thenC (tokD a b) (cmpDeb (nextD a) (nextD b)) := thr_step (by decide) rfl nextD_short a b
theorem ord_deb : Ordr cmpDeb := ord_thr (by decide) rfl nextD_short ord_tokD
theorem numP_nil {l : List UInt8} (h : rankD l ≠ 0) : numP l = [] := by
  cases l with
  | nil => rfl
  | cons c r =>
    cases hd : isDg c with
    | true => exact absurd (by simp only [rankD, hd]; rfl) h
    | false => simp [numP, hd]
theorem deb_ne {a b : List UInt8} (h : rankD a ≠ rankD b) : cmpDeb a b = cmpI (rankD a) (rankD b) := by
  rw [deb_step]; unfold tokD
  rw [thenC_ne (cmpI_ne h), thenC_ne (cmpI_ne h)]
theorem deb_tail {a b : List UInt8} (h : rankD a = rankD b) (h0 : rankD a ≠ 0) : cmpDeb a b = cmpDeb a.tail b.tail ∧ a ≠ [] ∧ b ≠ [] := by
  have hb0 : rankD b ≠ 0 := h ▸ h0
  refine ⟨?_, fun e => h0 (by rw [e]; rfl), fun e => hb0 (by rw [e]; rfl)⟩
  rw [deb_step]; unfold tokD nextD
  rw [numP_nil h0, numP_nil hb0, h, cmpI_self, thenC_zero, if_neg hb0, if_neg hb0]
  rfl
theorem deb_num {a b : List UInt8} (ha : rankD a = 0) (hb : rankD b = 0) (h : cmpNum (numP a) (numP b) ≠ 0) : cmpDeb a b = cmpNum (numP a) (numP b) := by
  rw [deb_step]; unfold tokD
  rw [ha, hb, cmpI_self, thenC_zero, thenC_ne h]
theorem deb_next {a b : List UInt8} (ha : rankD a = 0) (hb : rankD b = 0) (h : cmpNum (numP a) (numP b) = 0) : cmpDeb a b = cmpDeb (a.dropWhile isDg) (b.dropWhile isDg) := by
  rw [deb_step]; unfold tokD nextD
  rw [ha, hb, cmpI_self, thenC_zero, h, thenC_zero, if_pos rfl, if_pos rfl]
/-- Digits that are left out make a text shorter. -/
theorem deb_less {a : List UInt8} (ha : rankD a = 0) (h : a.dropWhile isDg ≠ []) : (a.dropWhile isDg).length < a.length := by
  have h1 := nextD_short a (fun e => h (by rw [e]; rfl))
  unfold nextD at h1
  rwa [if_pos ha] at h1
theorem deb_nil : cmpDeb [] [] = 0 := ord_deb.self []
theorem rpm_nil : cmpRpm [] [] = 0 := ord_rpm.self []
theorem deb_zero (a : List UInt8) : cmpDeb [48] a = cmpDeb [] a := by
  rw [deb_step [48] a, deb_step [] a]
  rfl

/-! Versions. -/
def cmpTxt (kind : Int) (a b : List UInt8) : Int := if kind = 1 then cmpRpm a b else cmpDeb a b
def someI (l : List UInt8) : Int := if l = [] then 0 else 1
def cmpRel (kind : Int) (a b : List UInt8) : Int := if kind = 1 then thenC (cmpI (someI a) (someI b)) (cmpRpm a b) else cmpDeb a b
structure Parts where
  e : List UInt8
  v : List UInt8
  r : List UInt8
def cmpEV (kind : Int) (a b : Parts) : Int := thenC (cmpNum a.e b.e) (cmpTxt kind a.v b.v)
def cmpEvr (kind : Int) (a b : Parts) : Int := thenC (cmpEV kind a b) (cmpRel kind a.r b.r)
theorem ordTxt (kind : Int) : Ordr (cmpTxt kind) := by
  unfold cmpTxt; split
  · exact ord_rpm
  · exact ord_deb
theorem ordRel (kind : Int) : Ordr (cmpRel kind) := by
  unfold cmpRel; split
  · exact (ordI.comap someI).then_ ord_rpm
  · exact ord_deb
theorem ordEV (kind : Int) : Ordr (cmpEV kind) := (ordNum.comap Parts.e).then_ ((ordTxt kind).comap Parts.v)
theorem ordEvr (kind : Int) : Ordr (cmpEvr kind) := (ordEV kind).then_ ((ordRel kind).comap Parts.r)

/-! Taking apart. -/
/-- What stands ahead of the first such byte, and behind it. -/
def cutAt (c : UInt8) (l : List UInt8) : Option (List UInt8 × List UInt8) := if c ∈ l then some (l.takeWhile (· != c), (l.dropWhile (· != c)).tail) else none
/-- What stands ahead of the last such byte, and behind it. -/
def cutLast (c : UInt8) (l : List UInt8) : Option (List UInt8 × List UInt8) := (cutAt c l.reverse).map fun p => (p.2.reverse, p.1.reverse)
def vr (e l : List UInt8) : Option Parts :=
  if 58 ∈ l then none else
  match cutLast 45 l with
  | some (v, r) => if v = [] ∨ r = [] then none else some ⟨e, v, r⟩
  | none => if l = [] then none else some ⟨e, l, []⟩
def parse (l : List UInt8) : Option Parts :=
  if l.length ≤ 60 ∧ l.all isMay = true then
    match cutAt 58 l with
    | some (e, t) => if e ≠ [] ∧ e.length ≤ 9 ∧ e.all isDg = true then vr e t else none
    | none => vr [] l
  else none
end Go.Proofs.YtciogfpejenedaaGreatDoor
