/- Directories and paths: where a path leads, and that it stays so. -/
import Derived.Test.YthgagobdkcikiaaDoorPath
namespace Go.Proofs.YthgagobdkcikiaaDoor
set_option linter.unusedSimpArgs false
set_option linter.unusedVariables false
open Go.RowKit

theorem ix_app {α : Type} [DecidableEq α] {l : List α} {a : α} {k : Nat} (h : ix l a = some k) (t : List α) : ix (l ++ t) a = some k := by
  induction l generalizing k with
  | nil => cases h
  | cons b r ih =>
    rw [List.cons_append]
    unfold ix at h ⊢
    split at h
    · rename_i hb; rw [if_pos hb]; exact h
    · rename_i hb
      rw [if_neg hb]
      cases hr : ix r a with
      | none => rw [hr] at h; cases h
      | some j => rw [hr] at h; rw [ih hr]; exact h
theorem wk_same {ds : List DirE} (t : List DirE) : ∀ (l : List ByteArray) (n : Nat), wk (ds ++ t) n l = wk (ds ++ t) (wk ds n l).1 (wk ds n l).2
  | [], n => rfl
  | p :: r, n => by
    cases hi : ix ds (n, p) with
    | none =>
      have e : wk ds n (p :: r) = (n, p :: r) := by rw [wk, hi]
      rw [e]
    | some k =>
      have e : wk ds n (p :: r) = wk ds k r := by rw [wk, hi]
      have e2 : wk (ds ++ t) n (p :: r) = wk (ds ++ t) k r := by rw [wk, ix_app hi t]
      rw [e, e2]
      exact wk_same t r k
theorem wk_app {ds : List DirE} {l : List ByteArray} {n m : Nat} (h : wk ds n l = (m, [])) (t : List DirE) : wk (ds ++ t) n l = (m, []) := by
  rw [wk_same t l n, h]; rfl
theorem mkd_ext : ∀ (r : List ByteArray) (ds : List DirE) (n : Nat), ∃ t, (mkd ds n r).2 = ds ++ t
  | [], ds, n => ⟨[], by simp [mkd]⟩
  | p :: r, ds, n => by
    obtain ⟨t, h⟩ := mkd_ext r (ds ++ [(n, p)]) ds.length
    exact ⟨(n, p) :: t, by rw [mkd, h]; simp⟩
theorem wk_mkd : ∀ (r : List ByteArray) (ds : List DirE) (n : Nat), DirsOk ds → n < ds.length → (r = [] ∨ ∃ p q, r = p :: q ∧ ix ds (n, p) = none) → (∀ p, p ∈ r → p.size ≤ 200) → ds.length + r.length ≤ 2000 →
    wk (mkd ds n r).2 n r = ((mkd ds n r).1, []) ∧ (mkd ds n r).1 < (mkd ds n r).2.length
  | [], ds, n, _, hn, _, _, _ => ⟨rfl, hn⟩
  | p :: r, ds, n, h, hn, hx, hs, hl => by
    have hix : ix ds (n, p) = none := by
      rcases hx with e | ⟨p', q, e, e2⟩
      · cases e
      · injection e with e _; rw [e]; exact e2
    simp only [List.length_cons] at hl
    have h1 : DirsOk (ds ++ [(n, p)]) := dirs_snoc h hix hn (by omega) (hs p (by simp))
    have hnx : r = [] ∨ ∃ p' q, r = p' :: q ∧ ix (ds ++ [(n, p)]) (ds.length, p') = none := by
      cases r with
      | nil => exact .inl rfl
      | cons p' q => exact .inr ⟨p', q, rfl, new_none h hn p'⟩
    obtain ⟨i1, i2⟩ := wk_mkd r (ds ++ [(n, p)]) ds.length h1 (by simp) hnx (fun q hq => hs q (by simp [hq])) (by simp; omega)
    obtain ⟨t, ht⟩ := mkd_ext r (ds ++ [(n, p)]) ds.length
    have hi : ix (mkd ds n (p :: r)).2 (n, p) = some ds.length := by
      rw [mkd, ht]
      refine ix_app ?_ t
      rw [ix_snoc, hix]
      simp
    refine ⟨?_, by rw [mkd]; exact i2⟩
    rw [wk, hi]
    show wk (mkd ds n (p :: r)).2 ds.length r = ((mkd ds n (p :: r)).1, [])
    rw [mkd]; exact i1
/-- A path leads to a directory, or it has none (below 0). -/
def Leads (ds : List DirE) (x : ByteArray) (n : Int) : Prop := n = -1 ∨ ∃ (m : Nat) (q : List ByteArray), n = (m : Int) ∧ partsOf x = some q ∧ m < ds.length ∧ wk ds 0 q = (m, [])
theorem Leads.app {ds : List DirE} {x : ByteArray} {n : Int} (h : Leads ds x n) (t : List DirE) : Leads (ds ++ t) x n := by
  rcases h with h | ⟨m, q, h1, h2, h3, h4⟩
  · exact .inl h
  · exact .inr ⟨m, q, h1, h2, by simp; omega, wk_app h4 t⟩
/-- No part is empty, or has a slash. -/
def PartsOk (ds : List DirE) : Prop := ∀ (k : Nat) d, ds[k]? = some d → 0 < k → d.2.data.toList ≠ [] ∧ (47 : UInt8) ∉ d.2.data.toList
theorem partsOk_root : PartsOk [(0, ⟨#[]⟩)] := fun k d hk h0 => by
  have := (List.getElem?_eq_some_iff.1 hk).1
  simp at this; omega
theorem PartsOk.snoc {ds : List DirE} (h : PartsOk ds) {d : DirE} (h1 : d.2.data.toList ≠ [] ∧ (47 : UInt8) ∉ d.2.data.toList) : PartsOk (ds ++ [d]) := fun k e hk h0 => by
  rcases Nat.lt_or_ge k ds.length with hl | hl
  · rw [List.getElem?_append_left hl] at hk
    exact h k e hk h0
  · rw [List.getElem?_append_right hl] at hk
    have := (List.getElem?_eq_some_iff.1 hk).1
    simp at this
    have e0 : k - ds.length = 0 := by omega
    rw [e0] at hk
    simp at hk
    subst hk
    exact h1
theorem PartsOk.mkd : ∀ (r : List ByteArray) (ds : List DirE) (n : Nat), PartsOk ds → (∀ p, p ∈ r → p.data.toList ≠ [] ∧ (47 : UInt8) ∉ p.data.toList) → PartsOk (mkd ds n r).2
  | [], ds, n, h, _ => h
  | p :: r, ds, n, h, hr => by
    rw [_root_.Go.Proofs.YthgagobdkcikiaaDoor.mkd]
    exact PartsOk.mkd r _ _ (h.snoc (hr p (by simp))) (fun q hq => hr q (by simp [hq]))
/-- What Dir leaves: the directories that there were, and more; the path leads there. -/
theorem dir_leads {ds : List DirE} (h : DirsOk ds) (hp : PartsOk ds) (x : ByteArray) : (∃ t, (dirAns ds x).2 = ds ++ t) ∧ PartsOk (dirAns ds x).2 ∧ ((dirAns ds x).1.2 = 0 → Leads (dirAns ds x).2 x ((dirAns ds x).1.1 : Int)) := by
  unfold dirAns
  cases hq : partsOf x with
  | none => exact ⟨⟨[], by simp⟩, hp, fun e => by cases e⟩
  | some q =>
    have hsp := parts_spec hq
    have hall : ∀ p, p ∈ q → (47 : UInt8) ∉ p.data.toList ∧ p.size ≤ 200 ∧ p.data.toList ≠ [] := fun p hpq => by
      rcases hsp with ⟨_, rfl⟩ | ⟨_, _, h3⟩
      · cases hpq
      · exact h3 p hpq
    by_cases hm : 2000 < ds.length + (wk ds 0 q).2.length
    · simp only [hm, if_true]
      exact ⟨⟨[], by simp⟩, hp, fun e => by cases e⟩
    · simp only [hm, if_false]
      have hr0 := root_lt h
      obtain ⟨t, ht⟩ := mkd_ext (wk ds 0 q).2 ds (wk ds 0 q).1
      have hw := wk_mkd (wk ds 0 q).2 ds (wk ds 0 q).1 h (wk_lt q 0 hr0) (wk_left q 0) (fun p hpq => (hall p (wk_suffix q 0 p hpq)).2.1) (by omega)
      refine ⟨⟨t, ht⟩, PartsOk.mkd _ _ _ hp (fun p hpq => ⟨(hall p (wk_suffix q 0 p hpq)).2.2, (hall p (wk_suffix q 0 p hpq)).1⟩), fun _ => .inr ⟨_, q, rfl, hq, hw.2, ?_⟩⟩
      have e := wk_same t q 0 (ds := ds)
      rw [← ht] at e
      rw [e]; exact hw.1
theorem dir_again {ds : List DirE} (h : DirsOk ds) {x : ByteArray} {q : List ByteArray} {m : Nat} (hq : partsOf x = some q) (hw : wk ds 0 q = (m, [])) : dirAns ds x = ((m, 0), ds) := by
  unfold dirAns
  rw [hq]
  simp only [hw, List.length_nil, Nat.add_zero]
  rw [if_neg (by have := h.few; omega)]
  rfl
theorem wk_full {ds : List DirE} (h : DirsOk ds) : ∀ (q : List ByteArray) (n m : Nat), (∀ p, p ∈ q → p.data.toList ≠ []) → wk ds n q = (m, []) → full ds m = full ds n ++ q.map (·.data.toList)
  | [], n, m, _, hw => by
    have : n = m := by simpa [wk] using hw
    subst this; simp
  | p :: r, n, m, hn, hw => by
    cases hi : ix ds (n, p) with
    | none => rw [wk, hi] at hw; simp at hw
    | some k =>
      rw [wk, hi] at hw
      have hk := ix_some hi
      have h0 : 0 < k := by
        rcases Nat.eq_zero_or_pos k with e | e
        · subst e
          rw [h.root] at hk
          injection hk with hk
          injection hk with _ hk
          exact absurd (by rw [← hk]) (hn p (by simp))
        · exact e
      rw [wk_full h r k m (fun q hq => hn q (by simp [hq])) hw, full_some h hk h0]
      simp
theorem path_leads {ds : List DirE} (h : DirsOk ds) {x : ByteArray} {q : List ByteArray} {m : Nat} (hq : partsOf x = some q) (hw : wk ds 0 q = (m, [])) (hm : m < ds.length) : pathOf ds m = x.data.toList := by
  have hsp := parts_spec hq
  have hne : ∀ p, p ∈ q → p.data.toList ≠ [] := fun p hpq => by
    rcases hsp with ⟨_, rfl⟩ | ⟨_, _, h3⟩
    · cases hpq
    · exact (h3 p hpq).2.2
  have hf := wk_full h q 0 m hne hw
  rw [full_zero, List.nil_append] at hf
  unfold pathOf
  by_cases h0 : m = 0
  · rw [if_pos h0]
    subst h0
    rw [full_zero] at hf
    rcases hsp with ⟨e, _⟩ | ⟨e, _⟩
    · exact e.symm
    · exact absurd (List.map_eq_nil_iff.1 hf.symm) e
  · rw [if_neg h0, hf]
    rcases hsp with ⟨_, rfl⟩ | ⟨_, e, _⟩
    · exact absurd hf (full_ne h hm (by omega))
    · exact e
/-- A directory's path is that of the one that it is in, a slash, and its part. -/
theorem path_up {ds : List DirE} (h : DirsOk ds) {m : Nat} {d : DirE} (hm : ds[m]? = some d) (h0 : 0 < m) : pathOf ds m = joinP (full ds d.1) ++ 47 :: d.2.data.toList := by
  unfold pathOf
  rw [if_neg (by omega), full_some h hm h0, join_app]
  simp [joinP]
theorem path_slash {ds : List DirE} (h : DirsOk ds) (hp : PartsOk ds) {m : Nat} (hm : m < ds.length) (h0 : 0 < m) : joinP (full ds m) ≠ [47] := by
  have hg := List.getElem?_eq_getElem hm
  have hpn := (hp m _ hg h0).1
  have e := path_up h hg h0
  unfold pathOf at e
  rw [if_neg (by omega)] at e
  rw [e]
  intro e2
  have h2 := congrArg List.length e2
  have hl := List.length_pos_iff.2 hpn
  simp only [List.length_append, List.length_cons, List.length_nil] at h2
  omega
end Go.Proofs.YthgagobdkcikiaaDoor
