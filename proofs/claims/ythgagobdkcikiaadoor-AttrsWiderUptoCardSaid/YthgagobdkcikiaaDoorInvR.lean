/- A region that draws its order: what holds whatever order is picked. -/
import Derived.Test.YthgagobdkcikiaaDoorPhase
import Derived.Test.YthgagobdkcikiaaDoorMem
namespace Go.Proofs.YthgagobdkcikiaaDoor
set_option linter.unusedSimpArgs false
set_option linter.unusedVariables false
open Go

section
variable {P : Program} {ops : Array Oper} {Q : Exit → Act → World → Prop} {md : Region.Mode}

def gB (l : Array Bool) (i : Nat) : Bool := l.getD i false
theorem ready_in {l : Array Bool} {i : Nat} (h : i ∈ Region.ready md ops l) : i < ops.size ∧ l.getD i true = false ∧ ∀ o, ops[i]? = some o → ∀ e, e ∈ o.after → Region.binds md e = true → l.getD e.on false = true := by
  unfold Region.ready at h
  rw [List.mem_filter] at h
  obtain ⟨h1, h2⟩ := h
  rw [Bool.and_eq_true] at h2
  refine ⟨List.mem_range.1 h1, by simpa using h2.1, fun o ho e he hb => ?_⟩
  have h3 := h2.2
  rw [ho] at h3
  simp only [Option.map_some, Option.getD_some] at h3
  have h4 := (Array.all_eq_true'.1 h3) e he
  rw [hb] at h4
  simpa using h4
/-- Nothing is left that may come: so what waits for nothing has come. -/
theorem unready {l : Array Bool} {i : Nat} {o : Oper} (hl : l.size = ops.size) (hr : Region.ready md ops l = []) (ho : ops[i]? = some o) (h0 : ∀ e, e ∈ o.after → gB l e.on = true) : gB l i = true := by
  have h : ∀ e, e ∈ o.after → l.getD e.on false = true := h0
  show l.getD i false = true
  have hi : i < ops.size := (Array.getElem?_eq_some_iff.1 ho).1
  rw [List.eq_nil_iff_forall_not_mem] at hr
  have h1 := hr i
  unfold Region.ready at h1
  rw [List.mem_filter] at h1
  by_cases h2 : l.getD i false = true
  · exact h2
  · exfalso
    apply h1
    refine ⟨List.mem_range.2 hi, ?_⟩
    rw [ho, Bool.and_eq_true]
    constructor
    · simp only [Array.getD_eq_getD_getElem?] at h2 ⊢
      rw [Array.getElem?_eq_getElem (by omega)] at h2 ⊢
      simpa using h2
    · simp only [Option.map_some, Option.getD_some]
      rw [Array.all_eq_true']
      intro e he
      rw [h e he]
      simp
/-- An entry of a map that is written out. -/
theorem step_insert_own {H : Type} {w : World} {o : Oper} {a : Act} {K : Act → World → Prop} {E : Prop}
    (hg : o.guard = none) (m x v : Operand) (t : TypeId) (hop : o.op = Op.insert t m x v)
    (k e : TypeId) (KL : Maps.Keyed P k) (ht : P.underlying t = some (.map k e)) (R : Value → Option (DataW H × List MemPlace)) (b n : Nat) (D : DataW H)
    (hm : a.eval m = .map (some b)) (hown : w.ownsMap P k R b n D) (hn : n < maxLen) (key val : Value) (kl : Lit) (hx : a.eval x = key) (hv : a.eval v = val) (hkey : keyOf P k key = some kl)
    (d : DataW H) (ps : List MemPlace) (hval : R val = some (d, ps))
    (hK : ∀ w', w'.ownsMap P k R b (n + 1) (D.put kl d) → w.grownBy w' (some b) → K (a.put o.dst undef) w') :
    if Region.wanted o (yielded ops a.tmps) = true then Oper.wp P o a w K Q else E := by
  have hw : Region.wanted o (yielded ops a.tmps) = true := by simp [Region.wanted, hg]
  rw [if_pos hw]
  obtain ⟨w', hrun, r1, r2⟩ := hown.update KL ht hn hkey hval
  unfold Oper.wp
  simp [execOp, hop, hm, hx, hv, hrun, Result.andThen]
  exact hK w' r1 r2
theorem count_set : ∀ (l : List Bool) (i : Nat), l[i]? = some false → ((l.set i true).filter (!·)).length + 1 = (l.filter (!·)).length
  | [], i, h => by simp at h
  | b :: l, 0, h => by simp at h; subst h; simp
  | b :: l, i + 1, h => by
    have := count_set l i (by simpa using h)
    cases b <;> simp <;> omega
/-- What holds behind each operation, whichever comes next, holds in the end. -/
theorem wpAny_inv {Inv : Array Bool → Act → World → Prop}
    (hend : ∀ l a w, l.size = ops.size → Region.ready md ops l = [] → Inv l a w → Q .normal a w)
    (hstep : ∀ l a w, l.size = ops.size → Inv l a w → ∀ i, i ∈ Region.ready md ops l → wpOp P ops Q i (Inv (l.setIfInBounds i true)) a w) :
    ∀ (fuel : Nat) (l : Array Bool) (a : Act) (w : World), l.size = ops.size → (l.toList.filter (!·)).length ≤ fuel → Inv l a w → wpAny P md ops Q fuel l a w
  | 0, l, a, w, hl, hf, h => by
    have hr : Region.ready md ops l = [] := by
      rw [List.eq_nil_iff_forall_not_mem]
      intro i hi
      obtain ⟨h1, h2, _⟩ := ready_in hi
      have h3 : l.toList.filter (!·) = [] := List.eq_nil_of_length_eq_zero (by omega)
      have h4 : l.toList[i]? = some false := by
        rw [Array.getElem?_toList, Array.getElem?_eq_getElem (by omega)]
        have : l.getD i true = l[i]'(by omega) := by simp [Array.getD, show i < l.size by omega]
        rw [← this, h2]
      have h5 := List.mem_of_getElem? h4
      have h6 : false ∈ l.toList.filter (!·) := List.mem_filter.2 ⟨h5, rfl⟩
      rw [h3] at h6
      cases h6
    exact ⟨hr, hend l a w hl hr h⟩
  | fuel + 1, l, a, w, hl, hf, h => by
    refine ⟨fun hr => hend l a w hl hr h, fun i hi => wpOp_mono (fun a' w' h' => ?_) (hstep l a w hl h i hi)⟩
    obtain ⟨h1, h2, _⟩ := ready_in hi
    refine wpAny_inv hend hstep fuel _ a' w' (by simpa using hl) ?_ h'
    have h4 : l.toList[i]? = some false := by
      rw [Array.getElem?_toList, Array.getElem?_eq_getElem (by omega)]
      have : l.getD i true = l[i]'(by omega) := by simp [Array.getD, show i < l.size by omega]
      rw [← this, h2]
    have := count_set l.toList i h4
    rw [Array.toList_setIfInBounds]
    omega
theorem wp_region_inv {id : Nat} {a : Act} {w : World} (Inv : Array Bool → Act → World → Prop) (hm : P.follows .mixedOrders = true) (h0 : Inv (Array.replicate ops.size false) a w.drew)
    (hend : ∀ l a w, l.size = ops.size → Region.ready .any ops l = [] → Inv l a w → Q .normal a w)
    (hstep : ∀ l a w, l.size = ops.size → Inv l a w → ∀ i, i ∈ Region.ready .any ops l → wpOp P ops Q i (Inv (l.setIfInBounds i true)) a w) : (Code.region id ops true).wp P Q a w :=
  wp_region_any hm (wpAny_inv hend hstep _ _ _ _ (by simp) (by simp) h0)
end
end Go.Proofs.YthgagobdkcikiaaDoor
