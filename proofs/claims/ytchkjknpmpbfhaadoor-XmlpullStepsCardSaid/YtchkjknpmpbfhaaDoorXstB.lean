/- XmlpullSteps: Next among the pieces, and behind them. -/
import Derived.Test.YtchkjknpmpbfhaaDoorXstA
namespace Go.Proofs.YtchkjknpmpbfhaaDoor
set_option linter.unusedSimpArgs false
set_option linter.unusedVariables false
open Go.RowKit

def endP (e : Int) : Pc := ⟨if e = 0 then 4 else 0, [], [], []⟩
def Bh (w2 : World) (B g : Nat) (e : Int) (w : World) : Prop := ∃ vo s wr, XRd w w2.heap.size g vo s wr ∧ Below w2.heap.size w2 w ∧ XEnv B w ∧
  ((e = 0 ∧ wr = 0 ∧ XOk s ∧ ∃ s1, nextR s = .ok (⟨4, [], [], []⟩, s1)) ∨ (e ≠ 0 ∧ wr = 0 ∧ XOk s ∧ nextR s = .error e) ∨ (e ≠ 0 ∧ wr = e))
def Rn (w2 : World) (B g : Nat) (ps : List Pc) (e : Int) (k : Nat) (w : World) : Prop := ∃ vo s m, XRd w w2.heap.size g vo s 0 ∧ Below w2.heap.size w2 w ∧ XEnv B w ∧ XOk s ∧ muX s < m ∧ allN m s = (ps.drop k, e)
section
variable {w2 w w' : World} {B g k : Nat} {e : Int} {ps : List Pc}
theorem Bh.below (h : Bh w2 B g e w) (hb : Below w.heap.size w w') : Bh w2 B g e w' := by
  obtain ⟨vo, s, wr, hx, hb0, hE, h⟩ := h
  exact ⟨vo, s, wr, hx.turned (Turned.of_below hb []) (fun k hk => by cases hk), hb0.trans (hb.mono hb0.size), hE.below hb, h⟩
theorem Rn.below (h : Rn w2 B g ps e k w) (hb : Below w.heap.size w w') : Rn w2 B g ps e k w' := by
  obtain ⟨vo, s, wr, hx, hb0, hE, h⟩ := h
  exact ⟨vo, s, wr, hx.turned (Turned.of_below hb []) (fun k hk => by cases hk), hb0.trans (hb.mono hb0.size), hE.below hb, h⟩
theorem Bh.bel (h : Bh w2 B g e w) : Below w2.heap.size w2 w := by
  obtain ⟨vo, s, wr, hx, hb0, h⟩ := h
  exact hb0
theorem Rn.bel (h : Rn w2 B g ps e k w) : Below w2.heap.size w2 w := by
  obtain ⟨vo, s, wr, hx, hb0, h⟩ := h
  exact hb0
theorem Rn.stop (h : Rn w2 B g ps e k w) (hk : ps.length ≤ k) : Bh w2 B g e w := by
  obtain ⟨vo, s, m, hx, hb0, hE, ho, hm, ha⟩ := h
  rw [List.drop_eq_nil_of_le hk] at ha
  refine ⟨vo, s, 0, hx, hb0, hE, ?_⟩
  rcases allN_nil ha hm with hn | ⟨he, pc, s', hn, h4⟩
  · exact .inr (.inl ⟨nextR_err hn, rfl, ho, hn⟩)
  · have h1 := (nextR_done ho hn h4).1
    rw [h1] at hn
    exact .inl ⟨he, rfl, ho, s', hn⟩
theorem next_bh (hB : B ≤ w2.heap.size) (h : Bh w2 B g e w) : Calls Tryd.prog 10 #[.pointer (some ⟨g, 0, none⟩)] w fun x w' => ∃ A c, x = .returned (.tuple #[pcV (endP e) A c, .int .i64 e]) ∧ c ≤ maxLen ∧ Bh w2 B g e w' := by
  obtain ⟨vo, s, wr, hx, hb, hE, h⟩ := h
  have hstep : ∀ w', Turned (fOf g vo) w w' → Below w2.heap.size w2 w' ∧ XEnv B w' := fun w' ht => ⟨hb.trans (ht.below (fun k hk => hx.base_le hk) hb.size), hE.turned ht (fun k hk => Nat.le_trans hB (hx.base_le hk))⟩
  rcases h with ⟨he, hw, ho, s1, hn⟩ | ⟨he, hw, ho, hn⟩ | ⟨he, hw⟩
  · rw [hw] at hx
    refine (Next_live hx hE hB ho).mono ?_
    rintro x w' ⟨ht, vo', s', hf, ⟨pc, A, c, hr, rfl, hx', hl, hc, hA⟩ | ⟨k, hr, -, -⟩⟩
    · obtain ⟨hb', hE'⟩ := hstep w' ht
      rw [hn] at hr
      injection hr with hr
      injection hr with h1 h2
      subst h1; subst h2
      refine ⟨A, c, ?_, hc, vo', s1, 0, hx', hb', hE', .inl ⟨he, rfl, (nextR_mu ho hn).1, s1, (nextR_done ho hn rfl).2⟩⟩
      rw [he]; rfl
    · rw [hn] at hr; cases hr
  · rw [hw] at hx
    refine (Next_live hx hE hB ho).mono ?_
    rintro x w' ⟨ht, vo', s', hf, ⟨pc, A, c, hr, -⟩ | ⟨k, hr, rfl, hx'⟩⟩
    · rw [hn] at hr; cases hr
    · obtain ⟨hb', hE'⟩ := hstep w' ht
      rw [hn] at hr
      injection hr with hr
      rw [← hr] at hx' ⊢
      refine ⟨none, 0, ?_, by unfold maxLen; omega, vo', s', e, hx', hb', hE', .inr (.inr ⟨he, rfl⟩)⟩
      unfold endP
      rw [if_neg he]; rfl
  · rw [hw] at hx
    refine (Next_dead hx he).mono ?_
    rintro x w' ⟨rfl, hx', hbe⟩
    refine ⟨none, 0, ?_, by unfold maxLen; omega, vo, s, e, hx', hb.trans (hbe.mono hb.size), hE.below hbe, .inr (.inr ⟨he, rfl⟩)⟩
    unfold endP
    rw [if_neg he]; rfl
theorem next_rn (hB : B ≤ w2.heap.size) (h : Rn w2 B g ps e k w) {p : Pc} (hp : ps[k]? = some p) : Calls Tryd.prog 10 #[.pointer (some ⟨g, 0, none⟩)] w fun x w' => ∃ A c, x = .returned (.tuple #[pcV p A c, .int .i64 0]) ∧ p.attrs.length ≤ c ∧ c ≤ maxLen ∧ AlR w' A p.attrs ∧ Rn w2 B g ps e (k + 1) w' := by
  obtain ⟨vo, s, m, hx, hb, hE, ho, hm, ha⟩ := h
  have hstep : ∀ w', Turned (fOf g vo) w w' → Below w2.heap.size w2 w' ∧ XEnv B w' := fun w' ht => ⟨hb.trans (ht.below (fun k hk => hx.base_le hk) hb.size), hE.turned ht (fun k hk => Nat.le_trans hB (hx.base_le hk))⟩
  obtain ⟨hk, hpe⟩ := List.getElem?_eq_some_iff.1 hp
  rw [List.drop_eq_getElem_cons hk, hpe] at ha
  obtain ⟨m', s', rfl, hn, h4, ha'⟩ := allN_cons ha
  obtain ⟨ho', hmu⟩ := nextR_mu ho hn
  have hm' := hmu h4
  refine (Next_live hx hE hB ho).mono ?_
  rintro x w' ⟨ht, vo', s2, hf, ⟨pc, A, c, hr, rfl, hx', hl, hc, hA⟩ | ⟨k, hr, -, -⟩⟩
  · obtain ⟨hb', hE'⟩ := hstep w' ht
    rw [hn] at hr
    injection hr with hr
    injection hr with h1 h2
    subst h1; subst h2
    exact ⟨A, c, rfl, hl, hc, hA.rd, vo', s', m', hx', hb', hE', ho', by omega, ha'⟩
  · rw [hn] at hr; cases hr
end
end Go.Proofs.YtchkjknpmpbfhaaDoor
