/- Two lists fall into three parts: plain facts. -/
import Derived.Test.YthkebmnbkolhiaaSetsW
namespace Go.Proofs.Ythkebmnbkolhiaa

theorem mrg_comm {f : Bool → Bool → Bool} (hf : ∀ p q, f p q = f q p) (a b : List Int) : mrg f a b = mrg f b a :=
  rise_ext _ _ (mrg_rise _ _ _) (mrg_rise _ _ _) fun z => by
    rw [mrg_mem, mrg_mem]; unfold Want
    rw [hf, or_comm]
theorem mem_union (a b : List Int) (z : Int) : z ∈ mrg fUnion a b ↔ (z ∈ a ∨ z ∈ b) := by
  rw [mrg_mem]; unfold Want fUnion
  by_cases h1 : z ∈ a <;> by_cases h2 : z ∈ b <;> simp [h1, h2]
theorem mem_meet (a b : List Int) (z : Int) : z ∈ mrg fMeet a b ↔ (z ∈ a ∧ z ∈ b) := by
  rw [mrg_mem]; unfold Want fMeet
  by_cases h1 : z ∈ a <;> by_cases h2 : z ∈ b <;> simp [h1, h2]
theorem mem_minus (a b : List Int) (z : Int) : z ∈ mrg fMinus a b ↔ (z ∈ a ∧ ¬ z ∈ b) := by
  rw [mrg_mem]; unfold Want fMinus
  by_cases h1 : z ∈ a <;> by_cases h2 : z ∈ b <;> simp [h1, h2]
theorem parts_sum (a b : List Int) : mrg fUnion (mrg fMinus a b) (mrg fUnion (mrg fMeet a b) (mrg fMinus b a)) = mrg fUnion a b :=
  rise_ext _ _ (mrg_rise _ _ _) (mrg_rise _ _ _) fun z => by
    rw [mem_union, mem_union, mem_minus, mem_meet, mem_minus, mem_union]
    by_cases h1 : z ∈ a <;> by_cases h2 : z ∈ b <;> simp [h1, h2]
theorem rise_nodup {l : List Int} (h : l.Pairwise (· < ·)) : l.Nodup := h.imp fun h => by omega
theorem parts_len (a b : List Int) : (mrg fMinus a b).length + (mrg fMeet a b).length + (mrg fMinus b a).length = (mrg fUnion a b).length := by
  have hn : (mrg fMinus a b ++ mrg fMeet a b ++ mrg fMinus b a).Nodup := by
    rw [List.nodup_append]
    refine ⟨?_, rise_nodup (mrg_rise _ _ _), ?_⟩
    · rw [List.nodup_append]
      refine ⟨rise_nodup (mrg_rise _ _ _), rise_nodup (mrg_rise _ _ _), fun x hx y hy e => ?_⟩
      subst e
      exact ((mem_minus a b x).1 hx).2 ((mem_meet a b x).1 hy).2
    · intro x hx y hy e
      subst e
      have h2 := (mem_minus b a x).1 hy
      rcases List.mem_append.1 hx with h | h
      · exact h2.2 ((mem_minus a b x).1 h).1
      · exact h2.2 ((mem_meet a b x).1 h).1
  have hm : ∀ z, z ∈ mrg fMinus a b ++ mrg fMeet a b ++ mrg fMinus b a ↔ z ∈ mrg fUnion a b := fun z => by
    rw [List.mem_append, List.mem_append, mem_minus, mem_meet, mem_minus, mem_union]
    by_cases h1 : z ∈ a <;> by_cases h2 : z ∈ b <;> simp [h1, h2]
  have h1 := nodup_len _ _ hn fun x hx => (hm x).1 hx
  have h2 := nodup_len _ _ (rise_nodup (mrg_rise fUnion a b)) fun x hx => (hm x).2 hx
  rw [List.length_append, List.length_append] at h1 h2
  omega
end Go.Proofs.Ythkebmnbkolhiaa
