/- XmlpullNests: what All tells, piece by piece. -/
import Derived.Test.YtoifibnmincodaaDoorXneA
namespace Go.Proofs.YtoifibnmincodaaDoor
set_option linter.unusedSimpArgs false
set_option linter.unusedVariables false
open Go.RowKit

/-- i pieces were gone through; opn is open, the last one's kind was last. -/
def Lk (ps : List Pc) (e : Int) (i : Nat) (opn : List Bs) (last : Int) : Prop :=
  (∀ q, 0 < i → ps[i - 1]? = some q → q.kind = last) ∧ ((∃ s m, allN m s = (ps.drop i, e) ∧ muX s < m ∧ Nst s i last ∧ s.opn = opn) ∨ (ps = [] ∧ e ≠ 0 ∧ opn = []))
theorem Lk.start (l : Bs) : Lk (allX l).1 (allX l).2 0 [] 0 := by
  refine ⟨fun q h => by omega, ?_⟩
  by_cases hl : 40000 < l.length
  · have h : allX l = ([], 104) := by unfold allX; rw [if_pos hl]
    rw [h]; exact .inr ⟨rfl, by decide, rfl⟩
  · have h : allX l = allN (muX (s0X l) + 1) (s0X l) := by unfold allX; rw [if_neg hl]
    rw [h]
    refine .inl ⟨s0X l, _, rfl, Nat.lt_succ_self _, ⟨⟨by show l.length ≤ 40000; omega, Nat.zero_le _, fun h => by cases h⟩, ⟨fun h => (by cases h), fun h => by omega⟩, fun _ => rfl, fun h => by omega, fun h => by cases h⟩, rfl⟩
theorem Lk.stop {ps : List Pc} {e : Int} {i : Nat} {opn : List Bs} {last : Int} (h : Lk ps e i opn last) (hi : ps.length ≤ i) : e ≠ 0 ∨ (opn = [] ∧ 2 ≤ i) := by
  obtain ⟨-, ⟨s, m, ha, hm, hN, ho⟩ | ⟨-, he, -⟩⟩ := h
  · rw [List.drop_eq_nil_of_le hi] at ha
    rcases allN_nil ha hm with hn | ⟨he, pc, s', hn, h4⟩
    · exact .inl (nextR_err hn)
    · rcases nest_step hN hn with ⟨h1, -⟩ | ⟨h1, -⟩ | ⟨h1, -⟩ | ⟨-, h1, h2⟩
      · rw [h4] at h1; cases h1
      · rw [h4] at h1; cases h1
      · rw [h4] at h1; cases h1
      · exact .inr ⟨by rw [← ho]; exact h1, h2⟩
  · exact .inl he
theorem Lk.step {ps : List Pc} {e : Int} {i : Nat} {opn : List Bs} {last : Int} {p : Pc} (h : Lk ps e i opn last) (hp : ps[i]? = some p) :
    (p.kind = 1 ∧ (opn = [] → i = 0) ∧ opn.length < 16 ∧ p.attrs.length ≤ 16 ∧ p.name ≠ [] ∧ Lk ps e (i + 1) (opn ++ [p.name]) 1) ∨
    (p.kind = 2 ∧ opn.getLast? = some p.name ∧ p.attrs = [] ∧ Lk ps e (i + 1) opn.dropLast 2) ∨
    (p.kind = 3 ∧ opn ≠ [] ∧ p.text ≠ [] ∧ last ≠ 3 ∧ Lk ps e (i + 1) opn 3) := by
  obtain ⟨-, ⟨s, m, ha, hm, hN, ho⟩ | ⟨he, -⟩⟩ := h
  rotate_left
  · rw [he] at hp; cases hp
  obtain ⟨hk, hpe⟩ := List.getElem?_eq_some_iff.1 hp
  rw [List.drop_eq_getElem_cons hk, hpe] at ha
  obtain ⟨m', s', rfl, hn, h4, ha'⟩ := allN_cons ha
  have hmu := (nextR_mu hN.ok hn).2 h4
  have hlast : ∀ k : Int, p.kind = k → ∀ q, 0 < i + 1 → ps[i + 1 - 1]? = some q → q.kind = k := fun k hk q _ hq => by
    rw [Nat.add_sub_cancel, hp] at hq
    injection hq with hq
    rw [← hq]; exact hk
  subst ho
  rcases nest_step hN hn with ⟨h1, h2, h3, h5, h6, h7, h8⟩ | ⟨h1, h2, h3, h5, h6⟩ | ⟨h1, h2, h3, h5, h6, h7⟩ | ⟨h1, -⟩
  · exact .inl ⟨h1, h2, h3, h5, h6, hlast 1 h1, .inl ⟨s', m', ha', by omega, h8, h7⟩⟩
  · exact .inr (.inl ⟨h1, h2, h3, hlast 2 h1, .inl ⟨s', m', ha', by omega, h6, h5⟩⟩)
  · exact .inr (.inr ⟨h1, h2, h3, h5, hlast 3 h1, .inl ⟨s', m', ha', by omega, h7, h6⟩⟩)
  · exact absurd h1 h4
end Go.Proofs.YtoifibnmincodaaDoor
