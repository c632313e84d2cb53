/- Maps in memory whose elements read by a word of one's own: as functions. -/
import Derived.Test.YthgagobdkcikiaaDoorMem
namespace Go.Proofs.YthgagobdkcikiaaDoor
set_option linter.unusedSimpArgs false
set_option linter.unusedVariables false
open Go.RowKit

section
variable {α β : Type}
/-- How an element is read that stands for something: its datum is en of what it stands for. -/
noncomputable def rdBy (val : β → Value) (en : β → DataW Unit) (v : Value) : Option (DataW Unit × List MemPlace) :=
  open Classical in if h : ∃ r, v = val r then some (en h.choose, []) else none
theorem rdBy_val {val : β → Value} {en : β → DataW Unit} (inj : ∀ a b, val a = val b → a = b) (r : β) : rdBy val en (val r) = some (en r, []) := by
  unfold rdBy
  have h : ∃ r', val r = val r' := ⟨r, rfl⟩
  rw [dif_pos h]
  have := inj _ _ h.choose_spec
  rw [← this]
theorem rdBy_inv {val : β → Value} {en : β → DataW Unit} (inj : ∀ a b, en a = en b → a = b) {v : Value} {r : β} {ps : List MemPlace} (h : rdBy val en v = some (en r, ps)) : v = val r := by
  unfold rdBy at h
  split at h
  · rename_i h0
    simp only [Option.some.injEq, Prod.mk.injEq] at h
    rw [← inj _ _ h.1]
    exact h0.choose_spec
  · cases h

/-- A map is a function. -/
structure Agr (kd : α → Lit) (ok : α → Prop) (en : β → DataW Unit) (D : DataW Unit) (f : α → Option β) : Prop where
  map : Maps.IsMap D
  has : ∀ a, ok a → Maps.has D (kd a) = (f a).isSome
  at_ : ∀ a z, ok a → D.atKey (kd a) (en z) = en ((f a).getD z)
theorem Agr.none_ (kd : α → Lit) (ok : α → Prop) (en : β → DataW Unit) : Agr kd ok en (.map []) (fun _ => none) := ⟨Maps.isMap_empty, fun _ _ => rfl, fun _ _ _ => rfl⟩
theorem Agr.put [DecidableEq α] {kd : α → Lit} {ok : α → Prop} {en : β → DataW Unit} (inj : ∀ a b, ok a → ok b → kd a = kd b → a = b) {D : DataW Unit} {f : α → Option β} (h : Agr kd ok en D f) (a : α) (ha : ok a) (hk : WideAt.IsKeyLit (kd a)) (c : β) :
    Agr kd ok en (D.put (kd a) (en c)) (fun b => if b = a then some c else f b) := by
  refine ⟨h.map.put _ _, fun b hbo => ?_, fun b z hbo => ?_⟩
  · by_cases hb : b = a
    · subst hb
      simp only [if_pos rfl]
      exact Maps.has_put_same h.map hk _
    · simp only [if_neg hb]
      exact (Maps.has_put_other (fun e => hb (inj _ _ hbo ha e)) _).trans (h.has b hbo)
  · by_cases hb : b = a
    · subst hb
      simp only [if_pos rfl]
      exact Maps.atKey_put_same h.map hk _ _
    · simp only [if_neg hb]
      exact (Maps.atKey_put_other (fun e => hb (inj _ _ hbo ha e)) _ _).trans (h.at_ b z hbo)
theorem Agr.congr {kd : α → Lit} {ok : α → Prop} {en : β → DataW Unit} {D : DataW Unit} {f g : α → Option β} (h : Agr kd ok en D f) (e : ∀ a, f a = g a) : Agr kd ok en D g :=
  ⟨h.map, fun a ha => by rw [← e a]; exact h.has a ha, fun a z ha => by rw [← e a]; exact h.at_ a z ha⟩
end
end Go.Proofs.YthgagobdkcikiaaDoor
