/- XmlpullSteps: what is known of pieces one by one. -/
import Derived.Test.YtoifibnmincodaaDoorXnd
import Derived.Test.YtoifibnmincodaaDoorXaw
namespace Go.Proofs.YtoifibnmincodaaDoor
set_option linter.unusedSimpArgs false
set_option linter.unusedVariables false
open Go.RowKit

theorem allN_cons {k : Nat} {s : XS} {p : Pc} {r : List Pc} {e : Int} (h : allN k s = (p :: r, e)) : ∃ k' s', k = k' + 1 ∧ nextR s = .ok (p, s') ∧ p.kind ≠ 4 ∧ allN k' s' = (r, e) := by
  cases k with
  | zero => simp [allN] at h
  | succ k =>
    cases hn : nextR s with
    | error e' => rw [allN_err hn] at h; simp at h
    | ok x =>
      by_cases h4 : x.1.kind = 4
      · rw [allN_done hn h4] at h; simp at h
      · rw [allN_more hn h4] at h
        simp at h
        obtain ⟨⟨h1, h2⟩, h3⟩ := h
        refine ⟨k, x.2, rfl, ?_, by rw [← h1]; exact h4, ?_⟩
        · rw [← h1]; first | done | exact hn
        · exact Prod.ext h2 h3
theorem allN_nil {k : Nat} {s : XS} {e : Int} (h : allN k s = ([], e)) (hk : muX s < k) : nextR s = .error e ∨ (e = 0 ∧ ∃ pc s', nextR s = .ok (pc, s') ∧ pc.kind = 4) := by
  cases k with
  | zero => omega
  | succ k =>
    cases hn : nextR s with
    | error e' => rw [allN_err hn] at h; simp at h; exact .inl (by rw [h])
    | ok x =>
      by_cases h4 : x.1.kind = 4
      · rw [allN_done hn h4] at h; simp at h; exact .inr ⟨h.symm, x.1, x.2, rfl, h4⟩
      · rw [allN_more hn h4] at h; simp at h
theorem pcs_cut {w : World} {b o : Nat} {ps : List Pc} {i : Nat} {p : Pc} (h : PcsR w (some ⟨b, o, none⟩) ps) (hi : ps[i]? = some p) : PcsR w (some ⟨b, o + i * 4, none⟩) [p] := fun k pc hk => by
  match k, hk with
  | 0, hk =>
    injection hk with hk; subst hk
    obtain ⟨b', o', A', c', e, h1, h2, h3, h4, h5, h6, h7⟩ := h i p hi
    injection e with e; injection e with e1 e2
    subst e1; subst e2
    exact ⟨b, o + i * 4, A', c', rfl, h1, h2, h3, h4, h5, h6, h7⟩
  | k + 1, hk => simp at hk
theorem pcs_one {w : World} {b : Nat} {pc : Pc} {A : Option Addr} {c : Nat} (h : Blk w b 30 (pcC pc A c)) (hl : pc.attrs.length ≤ c) (hm : c ≤ maxLen) (hA : AlR w A pc.attrs) : PcsR w (some ⟨b, 0, none⟩) [pc] := fun k q hk => by
  match k, hk with
  | 0, hk =>
    injection hk with hk; subst hk
    exact ⟨b, 0, A, c, rfl, h.cell _, h.cell _, h.cell _, h.cell _, hl, hm, hA⟩
  | k + 1, hk => simp at hk
end Go.Proofs.YtoifibnmincodaaDoor
