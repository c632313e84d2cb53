/- What follows of a version's parts: joined they are the version; an epoch ahead; noughts ahead. -/
import Derived.Test.YtbfpljlgjpmmmaaDoorCut
namespace Go.Proofs.YtbfpljlgjpmmmaaDoor
set_option linter.unusedSimpArgs false
set_option linter.unusedVariables false
open Go.Lib

theorem while_mem {c : UInt8} {l : List UInt8} (h : c ∈ l.takeWhile (· != c)) : False := by
  induction l with
  | nil => cases h
  | cons b l ih =>
    rw [List.takeWhile_cons] at h
    split at h
    · rename_i hb
      rcases List.mem_cons.1 h with e | e
      · subst e; simp at hb
      · exact ih e
    · cases h
theorem cutAt_join {c : UInt8} {l a b : List UInt8} (h : cutAt c l = some (a, b)) : l = a ++ c :: b ∧ c ∉ a := by
  unfold cutAt at h
  split at h
  · rename_i hc
    injection h with h
    injection h with h1 h2
    subst h1; subst h2
    refine ⟨?_, fun hm => ?_⟩
    · have h3 : l.dropWhile (· != c) = c :: (l.dropWhile (· != c)).tail := by
        have hne : l.dropWhile (· != c) ≠ [] := by
          intro e
          have := while_lt hc
          have h4 := drop_of_while (p := (· != c)) l
          rw [e] at h4
          have h5 := congrArg List.length h4
          rw [List.length_drop] at h5
          simp at h5
          omega
        cases hd : l.dropWhile (· != c) with
        | nil => exact absurd hd hne
        | cons x r =>
          have := dropWhile_head _ hd
          simp at this
          subst this
          rfl
      exact (List.takeWhile_append_dropWhile (p := (· != c)) (l := l)).symm.trans (by rw [h3]; rfl)
    · exact while_mem hm
  · cases h
theorem cutLast_join {c : UInt8} {l a b : List UInt8} (h : cutLast c l = some (a, b)) : l = a ++ c :: b ∧ c ∉ b := by
  unfold cutLast at h
  cases hx : cutAt c l.reverse with
  | none => rw [hx] at h; cases h
  | some q =>
    rw [hx] at h
    injection h with h
    injection h with h1 h2
    subst h1; subst h2
    obtain ⟨e, hn⟩ := cutAt_join (a := q.1) (b := q.2) hx
    refine ⟨?_, by simpa using hn⟩
    have := congrArg List.reverse e
    simpa using this
/-- What is behind the epoch. -/
def tailP (p : Parts) : List UInt8 := p.v ++ (if p.r = [] then [] else 45 :: p.r)
theorem vr_join {e l : List UInt8} {p : Parts} (h : vr e l = some p) : p.e = e ∧ l = tailP p ∧ p.v ≠ [] ∧ (58 : UInt8) ∉ l := by
  unfold vr at h
  split at h
  · cases h
  · rename_i hc
    split at h
    · rename_i v r hd
      split at h
      · cases h
      · rename_i hn
        injection h with h; subst h
        have hr : r ≠ [] := fun e => hn (.inr e)
        exact ⟨rfl, by rw [(cutLast_join hd).1]; simp [tailP, hr], fun e => hn (.inl e), hc⟩
    · split at h
      · cases h
      · rename_i hn
        injection h with h; subst h
        exact ⟨rfl, by simp [tailP], hn, hc⟩
/-- A version's epoch, where it has one, and what is behind it. -/
theorem parse_join {l : List UInt8} {p : Parts} (h : parse l = some p) : (p.e = [] ∧ l = tailP p ∧ vr [] l = some p ∨ p.e ≠ [] ∧ l = p.e ++ 58 :: tailP p) ∧ p.v ≠ [] ∧ l.length ≤ 60 ∧ l.all isMay = true := by
  unfold parse at h
  split at h
  · rename_i hl
    split at h
    · rename_i e t hc
      split at h
      · rename_i he
        obtain ⟨h1, h2, h3, _⟩ := vr_join h
        refine ⟨.inr ⟨by rw [h1]; exact he.1, ?_⟩, h3, hl⟩
        rw [h1, ← h2]
        exact (cutAt_join hc).1
      · cases h
    · obtain ⟨h1, h2, h3, _⟩ := vr_join h
      exact ⟨.inl ⟨h1, h2, h⟩, h3, hl⟩
  · cases h
theorem vr_epoch {l e : List UInt8} {p : Parts} (h : vr [] l = some p) : vr e l = some ⟨e, p.v, p.r⟩ := by
  unfold vr at h ⊢
  split at h
  · cases h
  · rename_i hc
    rw [if_neg hc]
    split at h
    · rename_i v r hd
      split at h
      · cases h
      · rename_i hn
        injection h with h; subst h
        simp only [if_neg hn]
    · rename_i hd
      split at h
      · cases h
      · rename_i hn
        injection h with h; subst h
        simp only [if_neg hn]
/-- One digit as the epoch of a version that has none. -/
theorem parse_epoch {l : List UInt8} {p : Parts} {d : UInt8} (h : parse l = some p) (he : p.e = []) (hl : l.length ≤ 50) (hd : isDg d = true) : parse (d :: 58 :: l) = some ⟨[d], p.v, p.r⟩ := by
  obtain ⟨h1, h2, h3, h4⟩ := parse_join h
  have hv : vr [] l = some p := by
    rcases h1 with h1 | h1
    · exact h1.2.2
    · exact absurd he h1.1
  have hne : (d != 58) = true := by
    have h58 : d ≠ 58 := by rintro rfl; revert hd; decide
    simp [h58]
  have hc : cutAt 58 (d :: 58 :: l) = some ([d], l) := by
    unfold cutAt
    rw [if_pos (by simp), List.takeWhile_cons, List.dropWhile_cons, hne]
    simp
  unfold parse
  rw [if_pos ⟨by simp; omega, by simp only [List.all_cons, h4]; rw [show isMay d = true by unfold isMay; rw [hd]; rfl]; rfl⟩, hc]
  simp only
  rw [if_pos ⟨by simp, by simp, by simp [hd]⟩]
  exact vr_epoch hv

/-! Noughts, or a point, ahead. -/
theorem vr_ahead {l : List UInt8} {x : UInt8} {p q : Parts} (hx : x ≠ 58 ∧ x ≠ 45) (h : vr [] l = some p) (h' : vr [] (x :: l) = some q) : q = ⟨[], x :: p.v, p.r⟩ := by
  unfold vr at h h'
  split at h
  · cases h
  · rename_i hc
    have hc' : (58 : UInt8) ∉ x :: l := by
      intro hm
      rcases List.mem_cons.1 hm with e | e
      · exact hx.1 e.symm
      · exact hc e
    rw [if_neg hc'] at h'
    cases hd : cutLast 45 l with
    | none =>
      have hn : (45 : UInt8) ∉ l := by
        intro hm
        obtain ⟨k, hk⟩ : ∃ q, cutAt 45 l.reverse = some q := by
          unfold cutAt; rw [if_pos (by simpa using hm)]; exact ⟨_, rfl⟩
        unfold cutLast at hd
        rw [hk] at hd
        cases hd
      rw [hd] at h
      rw [cutLast_no (by intro hm; rcases List.mem_cons.1 hm with e | e; exact hx.2 e.symm; exact hn e)] at h'
      simp only at h h'
      split at h
      · cases h
      · rw [if_neg (by simp)] at h'
        injection h with h; subst h
        injection h' with h'; exact h'.symm
    | some vr' =>
      obtain ⟨v, r⟩ := vr'
      obtain ⟨e1, e2⟩ := cutLast_join hd
      have hd' : cutLast 45 (x :: l) = some (x :: v, r) := by
        have := cutLast_at (l := x :: l) (c := 45) (k := v.length + 1) (by rw [e1]; simp) (fun j hj hj2 => by
          rw [e1]
          obtain ⟨i, rfl⟩ : ∃ i, j = v.length + 1 + 1 + i := ⟨j - (v.length + 2), by omega⟩
          have : (x :: (v ++ 45 :: r))[v.length + 1 + 1 + i]? = r[i]? := by
            rw [show v.length + 1 + 1 + i = (v.length + 1 + i) + 1 by omega, List.getElem?_cons_succ, List.getElem?_append_right (by omega), show v.length + 1 + i - v.length = i + 1 by omega, List.getElem?_cons_succ]
          rw [this]
          intro hr
          exact e2 (List.mem_of_getElem? hr))
        rw [this, e1]
        simp
      rw [hd] at h
      rw [hd'] at h'
      simp only at h h'
      split at h
      · cases h
      · rename_i hn
        rw [if_neg (by rintro (e | e); cases e; exact hn (.inr e))] at h'
        injection h with h; subst h
        injection h' with h'; exact h'.symm
/-- Digits, then a point: no such version has an epoch. -/
theorem parse_point {ds r : List UInt8} {p : Parts} (hd : ∀ x ∈ ds, x ≠ 58) (h : parse (ds ++ 46 :: r) = some p) : vr [] (ds ++ 46 :: r) = some p ∧ p.e = [] := by
  obtain ⟨h1, h2, h3, h4⟩ := parse_join h
  rcases h1 with h1 | h1
  · exact ⟨h1.2.2, h1.1⟩
  · exfalso
    unfold parse at h
    rw [if_pos ⟨h3, h4⟩] at h
    split at h
    · rename_i e t hc
      split at h
      · rename_i he
        obtain ⟨e1, e2⟩ := cutAt_join hc
        have hm : (46 : UInt8) ∈ e := by
          have hk : (ds ++ 46 :: r)[ds.length]? = some 46 := by simp
          rw [e1] at hk
          by_cases hlt : ds.length < e.length
          · rw [List.getElem?_append_left hlt] at hk
            exact List.mem_of_getElem? hk
          · exfalso
            have h58 : (ds ++ 46 :: r)[e.length]? = some 58 := by rw [e1]; simp
            by_cases heq : e.length = ds.length
            · rw [heq] at h58; simp at h58
            · rw [List.getElem?_append_left (by omega)] at h58
              exact hd _ (List.mem_of_getElem? h58) rfl
        have := List.all_eq_true.1 he.2.2 46 hm
        revert this; decide
      · cases h
    · obtain ⟨k1, _⟩ := vr_join h
      exact h1.1 k1
theorem strip_dg {c : UInt8} {l : List UInt8} (h : isDg c = true) : strip (c :: l) = c :: l := by
  unfold strip
  rw [List.dropWhile_cons, show isIdle c = false by unfold isIdle; rw [h]; rfl]
  rfl
theorem strip_point (l : List UInt8) : strip (46 :: l) = strip l := rfl
theorem rank_dg {c : UInt8} {l : List UInt8} (h : isDg c = true) : rankR (c :: l) = 4 := by
  have h2 := h
  unfold isDg at h2
  simp at h2
  simp only [rankR, h]
  rw [if_neg (by omega), if_neg (by omega)]
  rfl
theorem rankD_dg {c : UInt8} {l : List UInt8} (h : isDg c = true) : rankD (c :: l) = 0 := by simp only [rankD, h]; rfl
theorem num_zero (x y : List UInt8) : cmpNum (48 :: x) y = cmpNum x y := by unfold cmpNum nz; rw [List.dropWhile_cons]; rfl
theorem rpm_point (l w : List UInt8) : cmpRpm (46 :: l) w = cmpRpm l w := by
  rw [rpm_step (46 :: l) w, rpm_step l w]
  unfold tokR nextR
  rw [strip_point]
theorem rpm_zero {c : UInt8} {l w : List UInt8} (h : isDg c = true) : cmpRpm (48 :: c :: l) w = cmpRpm (c :: l) w := by
  rw [rpm_step (48 :: c :: l) w, rpm_step (c :: l) w]
  have e0 : strip (48 :: c :: l) = 48 :: c :: l := strip_dg (by decide)
  have e1 : strip (c :: l) = c :: l := strip_dg h
  have r0 : rankR (48 :: c :: l) = 4 := rank_dg (by decide)
  have r1 : rankR (c :: l) = 4 := rank_dg h
  have n0 : nextR (48 :: c :: l) = nextR (c :: l) := by
    unfold nextR
    rw [e0, e1, r0, r1, if_pos rfl, if_pos rfl, List.dropWhile_cons]
    rfl
  have t0 : tokR (48 :: c :: l) w = tokR (c :: l) w := by
    unfold tokR
    rw [e0, e1, r0, r1, letR_nil (l := 48 :: c :: l) (by rw [r0]; omega), letR_nil (l := c :: l) (by rw [r1]; omega)]
    rw [show numP (48 :: c :: l) = 48 :: numP (c :: l) by unfold numP; rw [List.takeWhile_cons]; rfl, num_zero]
  rw [n0, t0]
theorem deb_zero_ {c : UInt8} {l w : List UInt8} (h : isDg c = true) : cmpDeb (48 :: c :: l) w = cmpDeb (c :: l) w := by
  rw [deb_step (48 :: c :: l) w, deb_step (c :: l) w]
  have r0 : rankD (48 :: c :: l) = 0 := rankD_dg (by decide)
  have r1 : rankD (c :: l) = 0 := rankD_dg h
  have n0 : nextD (48 :: c :: l) = nextD (c :: l) := by
    unfold nextD
    rw [r0, r1, if_pos rfl, if_pos rfl, List.dropWhile_cons]
    rfl
  have t0 : tokD (48 :: c :: l) w = tokD (c :: l) w := by
    unfold tokD
    rw [r0, r1, show numP (48 :: c :: l) = 48 :: numP (c :: l) by unfold numP; rw [List.takeWhile_cons]; rfl, num_zero]
  rw [n0, t0]
theorem txt_zero (kind : Int) {c : UInt8} {l w : List UInt8} (h : isDg c = true) : cmpTxt kind (48 :: c :: l) w = cmpTxt kind (c :: l) w := by
  unfold cmpTxt; split
  · exact rpm_zero h
  · exact deb_zero_ h
/-- What is ahead of a version that begins with a digit, and then a point somewhere. -/
theorem ahead_zero (kind : Int) {c : UInt8} {ds r : List UInt8} {p q o : Parts} (hc : isDg c = true) (hd : ∀ x ∈ ds, x ≠ 58) (h : parse (c :: ds ++ 46 :: r) = some p) (h' : parse (48 :: (c :: ds ++ 46 :: r)) = some q) : cmpEvr kind q o = cmpEvr kind p o ∧ ∃ v, q.v = 48 :: v := by
  have hne : c ≠ 58 := by rintro rfl; revert hc; decide
  have hds : ∀ x ∈ c :: ds, x ≠ 58 := fun x hx => by
    rcases List.mem_cons.1 hx with e | e
    · rw [e]; exact hne
    · exact hd x e
  obtain ⟨h1, h2⟩ := parse_point hds h
  obtain ⟨k1, k2⟩ := parse_point (ds := 48 :: c :: ds) (fun x hx => by
    rcases List.mem_cons.1 hx with e | e
    · rw [e]; decide
    · exact hds x e) h'
  have := vr_ahead (x := 48) (by decide) h1 k1
  subst this
  obtain ⟨_, j, jv, _⟩ := vr_join h1
  have hv : ∃ v, p.v = c :: v := by
    cases hpv : p.v with
    | nil => exact absurd hpv jv
    | cons x v =>
      unfold tailP at j
      rw [hpv] at j
      simp only [List.cons_append] at j
      injection j with j1 _
      exact ⟨v, by rw [j1]⟩
  obtain ⟨v, hv⟩ := hv
  refine ⟨?_, _, rfl⟩
  unfold cmpEvr cmpEV
  simp only
  rw [h2, hv, txt_zero kind hc]
theorem ahead_point {c : UInt8} {ds r : List UInt8} {p q o : Parts} (hc : isDg c = true) (hd : ∀ x ∈ ds, x ≠ 58) (h : parse (c :: ds ++ 46 :: r) = some p) (h' : parse (46 :: (c :: ds ++ 46 :: r)) = some q) : cmpEvr 1 q o = cmpEvr 1 p o := by
  have hne : c ≠ 58 := by rintro rfl; revert hc; decide
  have hds : ∀ x ∈ c :: ds, x ≠ 58 := fun x hx => by
    rcases List.mem_cons.1 hx with e | e
    · rw [e]; exact hne
    · exact hd x e
  obtain ⟨h1, h2⟩ := parse_point hds h
  obtain ⟨k1, k2⟩ := parse_point (ds := 46 :: c :: ds) (fun x hx => by
    rcases List.mem_cons.1 hx with e | e
    · rw [e]; decide
    · exact hds x e) h'
  have := vr_ahead (x := 46) (by decide) h1 k1
  subst this
  unfold cmpEvr cmpEV cmpTxt
  simp only [if_true]
  rw [h2, rpm_point]
theorem vr_ahead' {l : List UInt8} {x : UInt8} {p : Parts} (hx : x ≠ 58 ∧ x ≠ 45) (h : vr [] l = some p) : vr [] (x :: l) = some ⟨[], x :: p.v, p.r⟩ := by
  have hs : (vr [] (x :: l)).isSome = true := by
    unfold vr at h ⊢
    split at h
    · cases h
    · rename_i hc
      have hc' : (58 : UInt8) ∉ x :: l := by
        intro hm
        rcases List.mem_cons.1 hm with e | e
        · exact hx.1 e.symm
        · exact hc e
      rw [if_neg hc']
      cases hd : cutLast 45 (x :: l) with
      | none => simp
      | some q =>
        obtain ⟨v, r⟩ := q
        obtain ⟨e1, e2⟩ := cutLast_join hd
        have hv : v ≠ [] := by
          rintro rfl
          injection e1 with e1 _
          exact hx.2 e1
        have hr : r ≠ [] := by
          rintro rfl
          cases v with
          | nil => exact hv rfl
          | cons y v' =>
            injection e1 with _ e1
            have hcl : cutLast 45 l = some (v', []) := by
              have := cutLast_at (l := l) (c := 45) (k := v'.length) (by rw [e1]; simp) (fun j h1 h2 => by rw [e1] at h2 ⊢; simp at h2; omega)
              rw [this, e1]; simp
            rw [hcl] at h
            simp at h
        simp only
        rw [if_neg (by rintro (e | e); exact hv e; exact hr e)]
        rfl
  obtain ⟨q, hq⟩ := Option.isSome_iff_exists.1 hs
  rw [hq, vr_ahead hx h hq]
/-- Three noughts ahead. -/
theorem ahead_zeros (kind : Int) {c : UInt8} {ds r : List UInt8} {p q o : Parts} (hc : isDg c = true) (hd : ∀ x ∈ ds, x ≠ 58) (h : parse (c :: ds ++ 46 :: r) = some p) (h' : parse (48 :: 48 :: 48 :: (c :: ds ++ 46 :: r)) = some q) : cmpEvr kind q o = cmpEvr kind p o := by
  have hne : c ≠ 58 := by rintro rfl; revert hc; decide
  have hds : ∀ x ∈ c :: ds, x ≠ 58 := fun x hx => by
    rcases List.mem_cons.1 hx with e | e
    · rw [e]; exact hne
    · exact hd x e
  obtain ⟨h1, h2⟩ := parse_point hds h
  obtain ⟨k1, k2⟩ := parse_point (ds := 48 :: 48 :: 48 :: c :: ds) (fun x hx => by
    simp only [List.mem_cons] at hx
    rcases hx with e | e | e | e | e
    · rw [e]; decide
    · rw [e]; decide
    · rw [e]; decide
    · rw [e]; exact hne
    · exact hd x e) h'
  have g := vr_ahead' (x := 48) (by decide) (vr_ahead' (x := 48) (by decide) (vr_ahead' (x := 48) (by decide) h1))
  have hq : q = ⟨[], 48 :: 48 :: 48 :: p.v, p.r⟩ := Option.some.inj (k1.symm.trans g)
  subst hq
  obtain ⟨_, j, jv, _⟩ := vr_join h1
  have hv : ∃ v, p.v = c :: v := by
    cases hpv : p.v with
    | nil => exact absurd hpv jv
    | cons x v =>
      unfold tailP at j
      rw [hpv] at j
      simp only [List.cons_append] at j
      injection j with j1 _
      exact ⟨v, by rw [j1]⟩
  obtain ⟨v, hv⟩ := hv
  unfold cmpEvr cmpEV
  simp only
  rw [h2, hv, txt_zero kind (c := 48) (by decide), txt_zero kind (c := 48) (by decide), txt_zero kind hc]
/-- What the joined text is. -/
def joinL (p : Parts) : List UInt8 := (if p.e = [] then [] else p.e ++ [58]) ++ tailP p
theorem join_is {l : List UInt8} {p : Parts} (h : parse l = some p) : l = joinL p := by
  unfold joinL
  rcases (parse_join h).1 with h1 | h1
  · rw [if_pos h1.1]; exact h1.2.1
  · rw [if_neg h1.1]
    exact h1.2.trans (by simp)
end Go.Proofs.YtbfpljlgjpmmmaaDoor
