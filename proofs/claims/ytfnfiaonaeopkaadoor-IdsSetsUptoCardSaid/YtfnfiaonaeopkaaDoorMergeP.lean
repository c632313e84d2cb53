/- Merging two rising lists: plain facts. -/
import Derived.Test.YtfnfiaonaeopkaaDoorSrt
namespace Go.Proofs.YtfnfiaonaeopkaaDoor.old
set_option linter.unusedSimpArgs false
set_option linter.unusedVariables false

/-- What is wanted of two lists, f saying which numbers stay. -/
def Want (f : Bool → Bool → Bool) (a b : List Int) (z : Int) : Prop := (z ∈ a ∨ z ∈ b) ∧ f (decide (z ∈ a)) (decide (z ∈ b)) = true

structure Inv (f : Bool → Bool → Bool) (a0 b0 out a b : List Int) : Prop where
  ro : out.Pairwise (· < ·)
  ra : a.Pairwise (· < ·)
  rb : b.Pairwise (· < ·)
  lo : ∀ x ∈ out, ∀ y, (y ∈ a ∨ y ∈ b) → x < y
  mem : ∀ z, Want f a0 b0 z ↔ (z ∈ out ∨ Want f a b z)

theorem Inv.start {f : Bool → Bool → Bool} {a b : List Int} (ha : a.Pairwise (· < ·)) (hb : b.Pairwise (· < ·)) : Inv f a b [] a b :=
  ⟨List.Pairwise.nil, ha, hb, (fun x hx => absurd hx (by simp)), fun z => by simp⟩

theorem Inv.step {f : Bool → Bool → Bool} {a0 b0 out a b a1 b1 : List Int} {x : Int} (h : Inv f a0 b0 out a b) (hx : x ∈ a ∨ x ∈ b) (ra : a1.Pairwise (· < ·)) (rb : b1.Pairwise (· < ·))
    (ha : ∀ z, z ∈ a1 ↔ (z ∈ a ∧ z ≠ x)) (hb : ∀ z, z ∈ b1 ↔ (z ∈ b ∧ z ≠ x)) (hlt : ∀ y, (y ∈ a1 ∨ y ∈ b1) → x < y) (p q : Bool) (hp : decide (x ∈ a) = p) (hq : decide (x ∈ b) = q) :
    Inv f a0 b0 (if f p q = true then out ++ [x] else out) a1 b1 := by
  subst hp
  subst hq
  have hw : ∀ z, z ≠ x → (Want f a1 b1 z ↔ Want f a b z) := fun z hz => by
    have e1 : decide (z ∈ a1) = decide (z ∈ a) := by rw [decide_eq_decide]; rw [ha]; simp [hz]
    have e2 : decide (z ∈ b1) = decide (z ∈ b) := by rw [decide_eq_decide]; rw [hb]; simp [hz]
    unfold Want
    rw [e1, e2, ha, hb]
    simp [hz]
  have hx1 : ¬ Want f a1 b1 x := fun hh => by
    rcases hh.1 with h1 | h1
    · exact ((ha x).1 h1).2 rfl
    · exact ((hb x).1 h1).2 rfl
  have hsub : ∀ y, (y ∈ a1 ∨ y ∈ b1) → (y ∈ a ∨ y ∈ b) := fun y hy => hy.imp (fun h => ((ha y).1 h).1) (fun h => ((hb y).1 h).1)
  by_cases hf : f (decide (x ∈ a)) (decide (x ∈ b)) = true
  · rw [if_pos hf]
    refine ⟨List.pairwise_append.2 ⟨h.ro, by simp, fun u hu v hv => by rw [List.mem_singleton.1 hv]; exact h.lo u hu x hx⟩, ra, rb, ?_, ?_⟩
    · intro u hu y hy
      rcases List.mem_append.1 hu with hu | hu
      · exact h.lo u hu y (hsub y hy)
      · rw [List.mem_singleton.1 hu]; exact hlt y hy
    · intro z
      rw [h.mem, List.mem_append, List.mem_singleton]
      by_cases hz : z = x
      · subst hz
        constructor
        · intro _; exact .inl (.inr rfl)
        · intro _; exact .inr ⟨hx, hf⟩
      · rw [hw z hz]
        constructor
        · rintro (h1 | h1)
          · exact .inl (.inl h1)
          · exact .inr h1
        · rintro ((h1 | h1) | h1)
          · exact .inl h1
          · exact absurd h1 hz
          · exact .inr h1
  · rw [if_neg hf]
    refine ⟨h.ro, ra, rb, fun u hu y hy => h.lo u hu y (hsub y hy), fun z => ?_⟩
    rw [h.mem]
    by_cases hz : z = x
    · subst hz
      constructor
      · rintro (h1 | h1)
        · exact .inl h1
        · exact absurd h1.2 hf
      · rintro (h1 | h1)
        · exact .inl h1
        · exact absurd h1 hx1
    · rw [hw z hz]

theorem mem_tail {x z : Int} {a : List Int} (h : (x :: a).Pairwise (· < ·)) : z ∈ a ↔ (z ∈ x :: a ∧ z ≠ x) := by
  have := (List.pairwise_cons.1 h).1
  constructor
  · intro hz; exact ⟨List.mem_cons_of_mem _ hz, fun e => by subst e; have := this z hz; omega⟩
  · rintro ⟨hz, hne⟩
    rcases List.mem_cons.1 hz with h | h
    · exact absurd h hne
    · exact h
theorem not_mem_of_lt {x : Int} {b : List Int} (h : ∀ y ∈ b, x < y) : x ∉ b := fun hx => by have := h x hx; omega
theorem head_lt {x y : Int} {b : List Int} (hb : (y :: b).Pairwise (· < ·)) (h : x < y) : ∀ z ∈ y :: b, x < z := fun z hz => by
  rcases List.mem_cons.1 hz with rfl | hz
  · exact h
  · have := (List.pairwise_cons.1 hb).1 z hz; omega

/-- The least number is the first list's head alone. -/
theorem Inv.stepA {f : Bool → Bool → Bool} {a0 b0 out a b : List Int} {x : Int} (h : Inv f a0 b0 out (x :: a) b) (hb : ∀ y ∈ b, x < y) : Inv f a0 b0 (if f true false = true then out ++ [x] else out) a b :=
  h.step (.inl (by simp)) (List.pairwise_cons.1 h.ra).2 h.rb (fun z => mem_tail h.ra) (fun z => ⟨fun hz => ⟨hz, fun e => by subst e; exact not_mem_of_lt hb hz⟩, fun hz => hz.1⟩)
    (fun y hy => hy.elim ((List.pairwise_cons.1 h.ra).1 y) (hb y)) true false (by simp) (by simpa using not_mem_of_lt hb)
/-- It is the second's alone. -/
theorem Inv.stepB {f : Bool → Bool → Bool} {a0 b0 out a b : List Int} {x : Int} (h : Inv f a0 b0 out a (x :: b)) (ha : ∀ y ∈ a, x < y) : Inv f a0 b0 (if f false true = true then out ++ [x] else out) a b :=
  h.step (.inr (by simp)) h.ra (List.pairwise_cons.1 h.rb).2 (fun z => ⟨fun hz => ⟨hz, fun e => by subst e; exact not_mem_of_lt ha hz⟩, fun hz => hz.1⟩) (fun z => mem_tail h.rb)
    (fun y hy => hy.elim (ha y) ((List.pairwise_cons.1 h.rb).1 y)) false true (by simpa using not_mem_of_lt ha) (by simp)
/-- It is both lists' head. -/
theorem Inv.stepAB {f : Bool → Bool → Bool} {a0 b0 out a b : List Int} {x : Int} (h : Inv f a0 b0 out (x :: a) (x :: b)) : Inv f a0 b0 (if f true true = true then out ++ [x] else out) a b :=
  h.step (.inl (by simp)) (List.pairwise_cons.1 h.ra).2 (List.pairwise_cons.1 h.rb).2 (fun z => mem_tail h.ra) (fun z => mem_tail h.rb)
    (fun y hy => hy.elim ((List.pairwise_cons.1 h.ra).1 y) ((List.pairwise_cons.1 h.rb).1 y)) true true (by simp) (by simp)

/-- What two lists come to. -/
def mrg (f : Bool → Bool → Bool) (a b : List Int) : List Int := (srt (a ++ b)).filter fun z => f (decide (z ∈ a)) (decide (z ∈ b))
theorem mrg_rise (f : Bool → Bool → Bool) (a b : List Int) : (mrg f a b).Pairwise (· < ·) := (srt_rise _).filter _
theorem mrg_mem (f : Bool → Bool → Bool) (a b : List Int) (z : Int) : z ∈ mrg f a b ↔ Want f a b z := by
  unfold mrg Want
  rw [List.mem_filter, srt_mem, List.mem_append]
theorem mrg_len (f : Bool → Bool → Bool) (a b : List Int) : (mrg f a b).length ≤ a.length + b.length := by
  have h1 : (mrg f a b).length ≤ (srt (a ++ b)).length := List.length_filter_le _ _
  have h2 := srt_len (a ++ b)
  rw [List.length_append] at h2
  omega
theorem Inv.fin {f : Bool → Bool → Bool} {a0 b0 out : List Int} (h : Inv f (srt a0) (srt b0) out [] []) : out = mrg f a0 b0 :=
  rise_ext _ _ h.ro (mrg_rise f a0 b0) fun z => by
    rw [mrg_mem]
    have h1 := h.mem z
    have e : Want f (srt a0) (srt b0) z ↔ Want f a0 b0 z := by
      unfold Want
      rw [show decide (z ∈ srt a0) = decide (z ∈ a0) from decide_eq_decide.2 (srt_mem _ _), show decide (z ∈ srt b0) = decide (z ∈ b0) from decide_eq_decide.2 (srt_mem _ _), srt_mem, srt_mem]
    rw [← e, h1]
    constructor
    · exact .inl
    · rintro (h | h)
      · exact h
      · rcases h.1 with h | h <;> cases h
theorem Inv.out_len {f : Bool → Bool → Bool} {a0 b0 out a b : List Int} (h : Inv f a0 b0 out a b) : out.length ≤ a0.length + b0.length := by
  have := rise_len_le out (a0 ++ b0) h.ro fun x hx => by
    have := ((h.mem x).2 (.inl hx)).1
    simpa using this
  rwa [List.length_append] at this
end Go.Proofs.YtfnfiaonaeopkaaDoor.old
