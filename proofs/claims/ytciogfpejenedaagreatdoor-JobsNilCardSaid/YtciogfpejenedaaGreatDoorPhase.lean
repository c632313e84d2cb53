/- A region that draws its order, in which a cell is loaded ahead of a store to it: what holds of the cells hangs on which stores have come up. -/
import Derived.Deep.RegionHeld
import Derived.StillTail
namespace Go.Proofs.YtciogfpejenedaaGreatDoor
set_option linter.unusedSimpArgs false
set_option linter.unusedVariables false
open Go

section
variable {P : Program} {ops : Array Oper} {Q : Exit → Act → World → Prop} {md : Region.Mode} {S : Array Bool → World → Prop}

/-- Whatever order is picked, and S, which may look at what has come up, holds behind each. -/
def wpAnyS (P : Program) (md : Region.Mode) (ops : Array Oper) (Q : Exit → Act → World → Prop) (S : Array Bool → World → Prop) : Nat → Array Bool → Act → World → Prop
  | 0, listed, a, w => Region.ready md ops listed = [] ∧ Q .normal a w
  | fuel + 1, listed, a, w =>
    (Region.ready md ops listed = [] → Q .normal a w) ∧
    ∀ i ∈ Region.ready md ops listed, wpOp P ops Q i (fun a' w' => S (listed.setIfInBounds i true) w' ∧ wpAnyS P md ops Q S fuel (listed.setIfInBounds i true) a' w') a w

theorem wpAny_of_S : ∀ (fuel : Nat) (listed : Array Bool) (a : Act) (w : World), wpAnyS P md ops Q S fuel listed a w → wpAny P md ops Q fuel listed a w
  | 0, _, _, _, h => h
  | fuel + 1, _, _, _, h => ⟨h.1, fun i hi => wpOp_mono (fun a' w' h' => wpAny_of_S fuel _ a' w' h'.2) (h.2 i hi)⟩

theorem wpAnyS_first {S' : World → Prop} {i : Nat} {oi : Oper} {v : Value} (hi : ops[i]? = some oi) (hsel : ∀ (j : Nat) (o : Oper) cs b, ops[j]? = some o → o.op ≠ .select cs b)
    (hQ : ∀ c a w, Q (.panic c) (a.put oi.dst v) w → Q (.panic c) a w)
    (hin : ∀ l w, (∀ k, Region.waitsFor md ops k i = true → l.getD k true = false) → S l w → S' w)
    (hio : ∀ l w, S (l.setIfInBounds i true) w ↔ S l w) :
    ∀ (fuel : Nat) (listed : Array Bool) (a : Act) (w : World),
      (∀ j oj, ops[j]? = some oj → j ≠ i → listed.getD j true = false → (∀ e ∈ oj.after, Region.binds md e = true → e.on ≠ i) → oi.apart ops oj = true) →
      (∀ k, Region.waitsFor md ops k i = true → listed.getD k true = false) →
      i ∈ Region.ready md ops listed → YieldsIf P ops S' oi v a → S listed w →
      wpAnyS P md ops Q S fuel (listed.setIfInBounds i true) (a.put oi.dst v) w → wpAnyS P md ops Q S (fuel + 1) listed a w := by
  intro fuel
  induction fuel with
  | zero =>
    intro listed a w _ hwt hr hy hS H
    refine ⟨fun h => (by rw [h] at hr; cases hr), fun j hj => ?_⟩
    by_cases hji : j = i
    · subst hji
      exact hy.wpOp hi (hin _ _ hwt hS) ⟨(hio _ _).2 hS, H⟩
    · have := ready_mono hj hji
      rw [H.1] at this
      cases this
  | succ fuel ih =>
    intro listed a w hfree hwt hr hy hS H
    refine ⟨fun h => (by rw [h] at hr; cases hr), fun j hj => ?_⟩
    by_cases hji : j = i
    · subst hji; exact hy.wpOp hi (hin _ _ hwt hS) ⟨(hio _ _).2 hS, H⟩
    · have h1 := H.2 j (ready_mono hj hji)
      obtain ⟨hjun, oj, hoj, hall⟩ := mem_ready.1 hj
      have hnot : ∀ e ∈ oj.after, Region.binds md e = true → e.on ≠ i := fun e he hb heq => by
        have h1 := hall e he hb
        have h0 := (mem_ready.1 hr).1
        rw [heq] at h1
        rcases Nat.lt_or_ge i listed.size with h' | h'
        · simp [h'] at h0 h1; rw [h0] at h1; cases h1
        · simp [Array.getElem?_eq_none h'] at h1
      have h2 := wpOp_putIf hoj (hfree j oj hoj hji hjun hnot) (fun cs b => hsel i oi cs b hi) (fun cs b => hsel j oj cs b hoj) hQ hy h1
      have hfree' : ∀ k ok, ops[k]? = some ok → k ≠ i → (listed.setIfInBounds j true).getD k true = false →
          (∀ e ∈ ok.after, Region.binds md e = true → e.on ≠ i) → oi.apart ops ok = true := fun k ok hk hki hun hno => by
        refine hfree k ok hk hki ?_ hno
        by_cases hjk : j = k
        · subst hjk; exact hjun
        · rw [getD_set_ne true hjk] at hun; exact hun
      have hwt' : ∀ k, Region.waitsFor md ops k i = true → (listed.setIfInBounds j true).getD k true = false := fun k hk => by
        have hjk : j ≠ k := by
          rintro rfl
          obtain ⟨o', ho', e, he, hb, hon⟩ := Region.waitsFor_spec hk
          have : o' = oj := Option.some.inj (ho'.symm.trans hoj)
          subst this
          exact hnot e he hb hon
        rw [getD_set_ne true hjk]; exact hwt k hk
      refine wpOp_mono (fun a' w' h3 => ?_) h2
      obtain ⟨hy', hS', H'⟩ := h3
      rw [Array.setIfInBounds_comm _ _ (Ne.symm hji)] at hS'
      have hS2 := (hio _ _).1 hS'
      refine ⟨hS2, ih (listed.setIfInBounds j true) a' w' hfree' hwt' (ready_mono hr (Ne.symm hji)) hy' hS2 ?_⟩
      rw [Array.setIfInBounds_comm _ _ hji]
      exact H'

/-- Take number i first. -/
theorem wpAnyS_take (S' : World → Prop) {i : Nat} {oi : Oper} {v : Value} {fuel : Nat} {listed : Array Bool} {a : Act} {w : World} (hi : ops[i]? = some oi)
    (hs : Region.noSelect ops = true) (hf : Region.free md ops listed i = true) (hr : (Region.ready md ops listed).contains i = true)
    (hQ : ∀ c a w, Q (.panic c) (a.put oi.dst v) w → Q (.panic c) a w)
    (hin : ∀ l w, (∀ k, Region.waitsFor md ops k i = true → l.getD k true = false) → S l w → S' w)
    (hio : ∀ l w, S (l.setIfInBounds i true) w ↔ S l w)
    (hwt : ((List.range ops.size).all fun k => !Region.waitsFor md ops k i || !listed.getD k true) = true)
    (hS : S listed w) (hy : ∀ w, S' w → (execOp a.eval oi).run P w = .ok (.value v) w) (hw : Region.wanted oi (yielded ops a.tmps) = true)
    (h : S (listed.setIfInBounds i true) w → wpAnyS P md ops Q S fuel (listed.setIfInBounds i true) (a.put oi.dst v) w) : wpAnyS P md ops Q S (fuel + 1) listed a w := by
  refine wpAnyS_first (S' := S') hi (Region.noSelect_spec hs) hQ hin hio fuel listed a w (Region.free_spec hi hf) (fun k hk => ?_) (by simpa using hr) (.inl ⟨hw, hy⟩) hS (h ((hio _ _).2 hS))
  obtain ⟨o', ho', _⟩ := Region.waitsFor_spec hk
  have h1 := List.all_eq_true.1 hwt k (List.mem_range.2 (Array.getElem?_eq_some_iff.1 ho').1)
  rw [hk] at h1
  simpa using h1
/-- The one that may come up comes up. -/
theorem wpAnyS_one {i : Nat} {o : Oper} {fuel : Nat} {listed : Array Bool} {a : Act} {w : World} (hr : Region.ready md ops listed = [i]) (ho : ops[i]? = some o)
    (h : ∀ K' : Act → World → Prop, Shut (∀ a w, S (listed.setIfInBounds i true) w → (S (listed.setIfInBounds i true) w → wpAnyS P md ops Q S fuel (listed.setIfInBounds i true) a w) → K' a w) →
      if Region.wanted o (yielded ops a.tmps) = true then Oper.wp P o a w K' Q else K' (a.put o.dst undef) w) : wpAnyS P md ops Q S (fuel + 1) listed a w := by
  refine ⟨fun h0 => (by rw [hr] at h0; cases h0), fun j hj => ?_⟩
  rw [hr] at hj
  have : j = i := by simpa using hj
  subst this
  exact wpOp_step ho (fun K' hK => h K' (fun a w hS hW => hK a w ⟨hS, hW hS⟩))
theorem wpAnyS_done {listed : Array Bool} {a : Act} {w : World} (hr : Region.ready md ops listed = []) (h : Q .normal a w) : ∀ fuel, wpAnyS P md ops Q S fuel listed a w
  | 0 => ⟨hr, h⟩
  | _ + 1 => ⟨fun _ => h, by rw [hr]; simp⟩
theorem wp_region_S {id : Nat} {a : Act} {w : World} (S : Array Bool → World → Prop) (hm : P.follows .mixedOrders = true) (hS : S (Array.replicate ops.size false) w.drew)
    (h : S (Array.replicate ops.size false) w.drew → wpAnyS P .any ops Q S ops.size (Array.replicate ops.size false) a w.drew) : (Code.region id ops true).wp P Q a w :=
  wp_region_any hm (wpAny_of_S _ _ _ _ (h hS))
end

/-- Each cell holds its value till number k, a store, has come up. -/
def Till (L : List (Nat × Addr × Value)) (l : Array Bool) (w : World) : Prop := ∀ x, x ∈ L → l.getD x.1 true = false → w.cell? x.2.1 = some x.2.2
theorem Till.out {L : List (Nat × Addr × Value)} {l : Array Bool} {w : World} (h : Till L l w) {k : Nat} {p : Addr} {v : Value} (hx : (k, p, v) ∈ L) (hk : l.getD k true = false) : w.cell? p = some v := h _ hx hk
theorem Till.io {L : List (Nat × Addr × Value)} {i : Nat} (h : (L.all fun x => x.1 != i) = true) (l : Array Bool) (w : World) : Till L (l.setIfInBounds i true) w ↔ Till L l w := by
  have e : ∀ x, x ∈ L → (l.setIfInBounds i true).getD x.1 true = l.getD x.1 true := fun x hx => by
    have h1 := List.all_eq_true.1 h x hx
    exact getD_set_ne true (fun e => by subst e; simp at h1)
  constructor
  · intro h x hx hk; exact h x hx ((e x hx).trans hk)
  · intro h x hx hk; exact h x hx ((e x hx).symm.trans hk)
theorem Till.same {L : List (Nat × Addr × Value)} {i : Nat} {l : Array Bool} {w w' : World} (h : Till L l w) (hl : (L.all fun x => x.1 != i) = true) (hc : ∀ p, w'.cell? p = w.cell? p) : Till L (l.setIfInBounds i true) w' :=
  (Till.io hl l w').2 fun x hx hk => (hc _).trans (h x hx hk)
theorem getD_set_same {l : Array Bool} {k : Nat} (h : k < l.size) : (l.setIfInBounds k true).getD k true = true := by simp [h]
theorem Till.two {k k' : Nat} {p p' : Addr} {v v' : Value} {l : Array Bool} {w : World} (h : w.cell? p = some v) (h' : w.cell? p' = some v') : Till [(k, p, v), (k', p', v')] l w := fun x hx _ => by
  rcases List.mem_cons.1 hx with rfl | hx
  · exact h
  · rcases List.mem_cons.1 hx with rfl | hx
    · exact h'
    · cases hx
/-- Behind the first store. -/
theorem Till.store1 {k k' : Nat} {p p' : Addr} {v v' : Value} {l : Array Bool} {w w' : World} (h : Till [(k, p, v), (k', p', v')] l w) (hlt : k < l.size) (hne : k ≠ k') (hc : w'.cell? p' = w.cell? p') : Till [(k, p, v), (k', p', v')] (l.setIfInBounds k true) w' := fun x hx hk => by
  rcases List.mem_cons.1 hx with rfl | hx
  · rw [getD_set_same hlt] at hk; cases hk
  · rcases List.mem_cons.1 hx with rfl | hx
    · rw [getD_set_ne true hne] at hk
      exact hc.trans (h (k', p', v') (by simp) hk)
    · cases hx
/-- Behind the second one. -/
theorem Till.store2 {k k' : Nat} {p p' : Addr} {v v' : Value} {l : Array Bool} {w : World} (hk0 : l.getD k true = true) (hlt : k' < l.size) : Till [(k, p, v), (k', p', v')] (l.setIfInBounds k' true) w := fun x hx hk => by
  rcases List.mem_cons.1 hx with rfl | hx
  · by_cases e : k' = k
    · subst e; rw [getD_set_same hlt] at hk; cases hk
    · rw [getD_set_ne true e, hk0] at hk; cases hk
  · rcases List.mem_cons.1 hx with rfl | hx
    · rw [getD_set_same hlt] at hk; cases hk
    · cases hx
end Go.Proofs.YtciogfpejenedaaGreatDoor
