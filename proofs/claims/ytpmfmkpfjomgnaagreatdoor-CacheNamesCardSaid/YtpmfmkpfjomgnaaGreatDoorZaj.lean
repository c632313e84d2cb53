/- What is known while a text is read: what is open, and what lies where. The reference's count of names; two that are the same. The reference's forms. The reference's forms of what has arguments; its check. -/
import Derived.Test.YtpmfmkpfjomgnaaGreatDoorZai
import Derived.Test.YtpmfmkpfjomgnaaGreatDoorZah
import Derived.StillTailTactics
/- What is known while a text is read: what is open, and what lies where. -/
namespace Go.Proofs.YtpmfmkpfjomgnaaGreatDoor
set_option linter.unusedSimpArgs false
set_option linter.unusedVariables false
open Go.RowKit

/-! A scope with two labels. -/
def jump2 (A B : Act → World → Prop) (Q : Exit → Act → World → Prop) : Exit → Act → World → Prop
  | .goto l, a, w => (l = 0 ∧ A a w) ∨ (l = 1 ∧ B a w)
  | e, a, w => Q e a w
theorem wp_scope_two {P : Program} {a : Act} {w : World} {Q : Exit → Act → World → Prop} {c restA restB : Code} (hA : findLabel c 0 = some restA) (hB : findLabel c 1 = some restB) (JA JB : Nat → Act → World → Prop)
    (ahead : ∀ n a w, JA n a w → restA.wp P (jump2 (fun a' w' => ∃ m, m < n ∧ JA m a' w') (fun a' w' => ∃ m, m < n ∧ JB m a' w') Q) a w)
    (behind : ∀ n a w, JB n a w → restB.wp P (jump2 (fun a' w' => ∃ m, m < n ∧ JA m a' w') (fun a' w' => ∃ m, m < n ∧ JB m a' w') Q) a w)
    (first : c.wp P (jump2 (fun a' w' => ∃ m, JA m a' w') (fun a' w' => ∃ m, JB m a' w') Q) a w) : (Code.scope c).wp P Q a w := by
  intro b k cs
  have hgA : gotoIn 0 (.inScope c :: k) = some (.code restA :: .inScope c :: k) := by simp [gotoIn, hA]
  have hgB : gotoIn 1 (.inScope c :: k) = some (.code restB :: .inScope c :: k) := by simp [gotoIn, hB]
  have key : ∀ n, (∀ a w, JA n a w → ∃ e a' w', Q e a' w' ∧ Arrives P (lone (b.at a (.code restA :: .inScope c :: k)) cs w) b k cs e a' w') ∧
      (∀ a w, JB n a w → ∃ e a' w', Q e a' w' ∧ Arrives P (lone (b.at a (.code restB :: .inScope c :: k)) cs w) b k cs e a' w') := by
    intro n
    induction n using Nat.strongRecOn with
    | _ n ih =>
      have one : ∀ (rest : Code) a w, rest.wp P (jump2 (fun a' w' => ∃ m, m < n ∧ JA m a' w') (fun a' w' => ∃ m, m < n ∧ JB m a' w') Q) a w →
          ∃ e a' w', Q e a' w' ∧ Arrives P (lone (b.at a (.code rest :: .inScope c :: k)) cs w) b k cs e a' w' := by
        intro rest a w hw
        obtain ⟨e, a₁, w₁, hq, harr⟩ := hw b (.inScope c :: k) cs
        cases e with
        | normal => exact ⟨.normal, a₁, w₁, hq, Steps.trans harr (.one step_inScope)⟩
        | exit id => exact ⟨.exit id, a₁, w₁, hq, fun k' hk => harr k' (by simp [exitTo, hk])⟩
        | goto l' =>
          rcases hq with ⟨rfl, m, hm, hJ⟩ | ⟨rfl, m, hm, hJ⟩
          · obtain ⟨e₂, a₂, w₂, hq₂, harr₂⟩ := (ih m hm).1 a₁ w₁ hJ
            exact ⟨e₂, a₂, w₂, hq₂, .of_steps (harr _ hgA) harr₂⟩
          · obtain ⟨e₂, a₂, w₂, hq₂, harr₂⟩ := (ih m hm).2 a₁ w₁ hJ
            exact ⟨e₂, a₂, w₂, hq₂, .of_steps (harr _ hgB) harr₂⟩
        | ret => exact ⟨_, a₁, w₁, hq, harr⟩
        | panic ch => exact ⟨_, a₁, w₁, hq, harr⟩
        | outgrown => exact ⟨_, a₁, w₁, hq, harr⟩
      exact ⟨fun a w h => one restA a w (ahead n a w h), fun a w h => one restB a w (behind n a w h)⟩
  obtain ⟨e, a₁, w₁, hq, harr⟩ := first b (.inScope c :: k) cs
  cases e with
  | normal => exact ⟨.normal, a₁, w₁, hq, .head step_scope (Steps.trans harr (.one step_inScope))⟩
  | exit id => exact ⟨.exit id, a₁, w₁, hq, fun k' hk => .head step_scope (harr k' (by simp [exitTo, hk]))⟩
  | goto l' =>
    rcases hq with ⟨rfl, m, hJ⟩ | ⟨rfl, m, hJ⟩
    · obtain ⟨e₂, a₂, w₂, hq₂, harr₂⟩ := (key m).1 a₁ w₁ hJ
      exact ⟨e₂, a₂, w₂, hq₂, .of_steps (.head step_scope (harr _ hgA)) harr₂⟩
    · obtain ⟨e₂, a₂, w₂, hq₂, harr₂⟩ := (key m).2 a₁ w₁ hJ
      exact ⟨e₂, a₂, w₂, hq₂, .of_steps (.head step_scope (harr _ hgB)) harr₂⟩
  | ret => exact ⟨_, a₁, w₁, hq, .of_steps (.one step_scope) harr⟩
  | panic ch => exact ⟨_, a₁, w₁, hq, .of_steps (.one step_scope) harr⟩
  | outgrown => exact ⟨_, a₁, w₁, hq, .of_steps (.one step_scope) harr⟩

/-! What is open, the outermost first: its kind, what it has, and where that lies. -/
structure OItem where
  k : Int
  r : Rows5
  s : Value
def itemRow (it : OItem) : Dep × Value := (node it.k [], it.s)
def stkOf (L : List OItem) : Stk := (L.map fun it => (it.k, it.r.map Prod.fst)).reverse
theorem stkOf_snoc (L : List OItem) (it : OItem) : stkOf (L ++ [it]) = (it.k, it.r.map Prod.fst) :: stkOf L := by simp [stkOf]
/-- The blocks that may be written. -/
def muts (v : Value) (L : List OItem) : List (Option Nat) := v.ownBlock :: L.map fun it => it.s.ownBlock
/-- How much is open. -/
def openM : List OItem → Nat
  | [] => 0
  | it :: r => 1 + nodesA (it.r.map Prod.fst) + openM r
theorem openM_snoc (L : List OItem) (it : OItem) : openM (L ++ [it]) = openM L + (1 + nodesA (it.r.map Prod.fst)) := by
  induction L with
  | nil => simp [openM]
  | cons x r ih => simp only [List.cons_append, openM, ih]; omega
structure RSt (w0 w : World) (S : Nat → Prop) (v : Value) (L : List OItem) (drow : Array Value) : Prop where
  own : w.ownsRow (w0.heap.size + 1 + 1) 50 5 v L.length (cells5 (L.map itemRow))
  args : ∀ it ∈ L, w.ownsRow (w0.heap.size + 1 + 1) 50 5 it.s it.r.length (cells5 it.r) ∧ ∀ x ∈ it.r, Lay w S x.1 x.2
  nodup : ((muts v L).filterMap id).Nodup
  notS : ∀ k ∈ (muts v L).filterMap id, ¬ S k
  base : ∀ b, S b → w0.heap.size + 1 + 1 ≤ b
  clean : CleanS w S
  res : Blk w w0.heap.size 50 #[.int .i64 0, .string ⟨#[]⟩, .int .i64 0, .string ⟨#[]⟩, .slice none 0 0]
  dblk : Blk w (w0.heap.size + 1) 50 drow
  below : Below w0.heap.size w0 w
  tabs : Tabs w
  two : 2 ≤ w0.heap.size
section
variable {w0 w w' : World} {S : Nat → Prop} {v v' : Value} {L : List OItem} {drow : Array Value}
theorem RSt.open_ (h : RSt w0 w S v L drow) {k : Nat} (hk : v.ownBlock = some k) : ¬ S k ∧ k < w.heap.size ∧ w0.heap.size + 1 + 1 ≤ k := by
  refine ⟨h.notS k ?_, own_lt h.own hk, (h.own.lt k hk).1⟩
  simp [muts, List.filterMap_cons, hk]
theorem RSt.item (h : RSt w0 w S v L drow) {it : OItem} (hi : it ∈ L) {k : Nat} (hk : it.s.ownBlock = some k) : ¬ S k ∧ k < w.heap.size ∧ w0.heap.size + 1 + 1 ≤ k ∧ v.ownBlock ≠ some k := by
  have hm : k ∈ (L.map fun it => it.s.ownBlock).filterMap id := List.mem_filterMap.2 ⟨some k, List.mem_map.2 ⟨it, hi, hk⟩, rfl⟩
  refine ⟨h.notS k ?_, own_lt (h.args it hi).1 hk, ((h.args it hi).1.lt k hk).1, fun hv => ?_⟩
  · unfold muts
    rw [List.filterMap_cons]
    split
    · exact hm
    · exact List.mem_cons_of_mem _ hm
  · have := h.nodup
    unfold muts at this
    rw [List.filterMap_cons, hv] at this
    exact (List.nodup_cons.1 this).1 hm
/-- Only what is none of it has turned. -/
theorem RSt.world (h : RSt w0 w S v L drow) {G : List Nat} (ht : Turned G w w') (hm : ∀ k ∈ G, w0.heap.size + 1 + 1 ≤ k ∧ k ∉ (muts v L).filterMap id ∧ ¬ S k) : RSt w0 w' S v L drow := by
  have hst : StayS S w w' := StayS.turned ht fun b hb hg => (hm b hg).2.2 hb
  have hmem : ∀ k, v.ownBlock = some k → k ∈ (muts v L).filterMap id := fun k hk => by simp [muts, List.filterMap_cons, hk]
  have hmem2 : ∀ it ∈ L, ∀ k, it.s.ownBlock = some k → k ∈ (muts v L).filterMap id := fun it hi k hk => List.mem_filterMap.2 ⟨some k, by simp [muts]; exact .inr ⟨it, hi, hk⟩, rfl⟩
  refine ⟨own_turned h.own ht (fun k hk hg => (hm k hg).2.1 (hmem k hk)), fun it hi => ⟨own_turned (h.args it hi).1 ht (fun k hk hg => (hm k hg).2.1 (hmem2 it hi k hk)), fun x hx => ((h.args it hi).2 x hx).stay (fun _ h => h) hst⟩, h.nodup, h.notS, h.base, h.clean.stay hst, h.res.turned ht (fun hg => by have := (hm _ hg).1; omega), h.dblk.turned ht (fun hg => by have := (hm _ hg).1; omega), ?_, h.tabs.turned ht (fun k hk => by have := h.below.size; have := (hm k hk).1; omega), h.two⟩
  exact h.below.trans (ht.below (fun k hk => (by have := (hm k hk).1; omega)) h.below.size)
theorem RSt.below_ (h : RSt w0 w S v L drow) (hb : Below w.heap.size w w') : RSt w0 w' S v L drow := h.world (Turned.of_below hb []) (fun k hk => by cases hk)
/-- A row of one's own and its block. -/
theorem own_blk {base n c g size : Nat} {e : TypeId} {xs : List Value} (h : w.ownsRow base e size (.slice (some ⟨g, 0, none⟩) n c) n xs) : ∃ cur, Blk w g e cur ∧ base ≤ g ∧ n ≤ c ∧ c ≤ maxLen ∧ cur.size = c * size ∧ cur.toList.take (n * size) = xs := by
  rcases h.2 with ⟨h1, _⟩ | ⟨g', cap, cur, h1, h2, h3, h4, h5, h6, h7⟩
  · cases h1
  · injection h1 with e1 e2 e3
    injection e1 with e1
    injection e1 with e1
    subst e1; subst e3
    exact ⟨cur, h3, h2, h4, h5, h6, h7⟩
theorem own_of {base n c g size : Nat} {e : TypeId} {xs : List Value} {cur : Array Value} (h : Blk w g e cur) (hb : base ≤ g) (hn : n ≤ c) (hc : c ≤ maxLen) (hz : cur.size = c * size) (ht : cur.toList.take (n * size) = xs) : w.ownsRow base e size (.slice (some ⟨g, 0, none⟩) n c) n xs := by
  refine ⟨?_, .inr ⟨g, c, cur, rfl, hb, h, hn, hc, hz, ht⟩⟩
  rw [← ht, List.length_take, Array.length_toList, hz, Nat.min_eq_left (Nat.mul_le_mul_right _ hn)]
theorem take_set' (cur : Array Value) (i n : Nat) (u : Value) : (cur.setIfInBounds i u).toList.take n = (cur.toList.take n).set i u := by
  rw [Array.toList_setIfInBounds, List.take_set]
theorem set_back {α : Type} (a b : List α) (j : Nat) (u : α) {i : Nat} (h : i = a.length + j) : (a ++ b).set i u = a ++ b.set j u := by
  subst h
  rw [List.set_append_right _ _ (by omega)]
  congr 2
  omega
/-- The dependency's cells. -/
theorem RSt.setD (h : RSt w0 w S v L drow) (i : Nat) (u : Value) : RSt w0 (w.setCell ⟨w0.heap.size + 1, i, none⟩ u) S v L (drow.setIfInBounds i u) := by
  have ht : Turned [w0.heap.size + 1] w (w.setCell ⟨w0.heap.size + 1, i, none⟩ u) := (Turned.refl _ _).setCell (.inl (by simp)) _
  have hst : StayS S w (w.setCell ⟨w0.heap.size + 1, i, none⟩ u) := StayS.turned ht fun b hb hg => by
    have := h.base b hb
    simp at hg; omega
  refine ⟨own_turned h.own ht (fun k hk hg => ?_), fun it hi => ⟨own_turned (h.args it hi).1 ht (fun k hk hg => ?_), fun x hx => ((h.args it hi).2 x hx).stay (fun _ h => h) hst⟩, h.nodup, h.notS, h.base, h.clean.stay hst, h.res.turned ht (by simp), h.dblk.set_ i u, ?_, h.tabs.turned ht (fun k hk => ?_), h.two⟩
  · have := (h.open_ hk).2.2; simp at hg; omega
  · have := (h.item hi hk).2.2.1; simp at hg; omega
  · exact h.below.setCell (by simp) _
  · have := h.two; simp at hk; omega
/-- One thing more is opened. -/
theorem RSt.push {w1 : World} (h : RSt w0 w S v L drow) (hown : w1.ownsRow (w0.heap.size + 1 + 1) 50 5 v' (L.length + 1) (cells5 (L.map itemRow) ++ [.int .i64 0, .string ⟨#[]⟩, .int .i64 0, .string ⟨#[]⟩, .slice none 0 0]))
    (hg : w.grownBy w1 v.ownBlock) (hat : v'.ownBlock = v.ownBlock ∨ v'.ownBlock = some w.heap.size) : RSt w0 w1 S v' (L ++ [⟨0, [], .slice none 0 0⟩]) drow := by
  have hG : ∀ k, k ∈ v.ownBlock.toList → v.ownBlock = some k := fun k hk => by simpa using hk
  have ht : Turned v.ownBlock.toList w w1 := (Turned.refl _ w).grown hg fun k hk => .inl (by simp [hk])
  have hst : StayS S w w1 := StayS.turned ht fun b hb hg => (h.open_ (hG b hg)).1 hb
  have hlt : ∀ it ∈ L, ∀ k, it.s.ownBlock = some k → k < w.heap.size := fun it hi k hk => (h.item hi hk).2.1
  have hmuts : (muts v' (L ++ [⟨0, [], .slice none 0 0⟩])).filterMap id = (muts v' L).filterMap id := by
    unfold muts
    rw [List.map_append, ← List.cons_append, List.filterMap_append]
    simp [Value.ownBlock]
  have hnew : ∀ k, k ∈ (muts v' L).filterMap id → k ∈ (muts v L).filterMap id ∨ k = w.heap.size := fun k hk => by
    unfold muts at hk ⊢
    rw [List.mem_filterMap] at hk
    obtain ⟨o, ho, he⟩ := hk
    rcases List.mem_cons.1 ho with rfl | ho
    · rcases hat with h1 | h1
      · left; rw [List.mem_filterMap]; exact ⟨v.ownBlock, by simp, by rw [← h1]; exact he⟩
      · right; rw [h1] at he; simpa using he.symm
    · left; rw [List.mem_filterMap]; exact ⟨o, by simp [ho], he⟩
  refine ⟨by rw [List.map_append, cells5_append, List.length_append]; exact hown, fun it hi => ?_, ?_, fun k hk => ?_, h.base, h.clean.stay hst, h.res.turned ht (fun hg => ?_), h.dblk.turned ht (fun hg => ?_), ?_, h.tabs.turned ht (fun k hk => ?_), h.two⟩
  · rcases List.mem_append.1 hi with hi | hi
    · exact ⟨own_turned (h.args it hi).1 ht (fun k hk hg => (h.item hi hk).2.2.2 (hG k hg)), fun x hx => ((h.args it hi).2 x hx).stay (fun _ h => h) hst⟩
    · have : it = ⟨0, [], .slice none 0 0⟩ := by simpa using hi
      subst this
      exact ⟨⟨rfl, .inl ⟨rfl, rfl⟩⟩, fun x hx => by cases hx⟩
  · rw [hmuts]
    rcases hat with h1 | h1
    · have e : muts v' L = muts v L := by unfold muts; rw [h1]
      rw [e]; exact h.nodup
    · unfold muts
      rw [h1]
      have hn := h.nodup
      unfold muts at hn
      simp only [List.filterMap_cons, id_eq]
      refine List.nodup_cons.2 ⟨fun hm => ?_, ?_⟩
      · obtain ⟨o, ho, he⟩ := List.mem_filterMap.1 hm
        obtain ⟨it, hi, rfl⟩ := List.mem_map.1 ho
        have := hlt it hi _ he
        omega
      · rw [List.filterMap_cons] at hn
        split at hn
        · exact hn
        · exact (List.nodup_cons.1 hn).2
  · rw [hmuts] at hk
    rcases hnew k hk with h1 | rfl
    · exact h.notS k h1
    · intro hs
      obtain ⟨cs, hc⟩ := h.clean _ hs
      have := hc.lt; omega
  · have := (h.open_ (hG _ hg)).2.2; omega
  · have := (h.open_ (hG _ hg)).2.2; omega
  · exact h.below.trans (ht.below (fun k hk => by have := (h.open_ (hG k hk)).2.2; omega) h.below.size)
  · have := (h.open_ (hG k hk)).2.2; have := h.two; omega
/-- The innermost one is closed. -/
theorem RSt.pop {it : OItem} {ob n c : Nat} (h : RSt w0 w S (.slice (some ⟨ob, 0, none⟩) (L.length + 1) c) (L ++ [it]) drow) :
    RSt w0 w (fun b => S b ∨ it.s.ownBlock = some b) (.slice (some ⟨ob, 0, none⟩) L.length c) L drow ∧ Lay w (fun b => S b ∨ it.s.ownBlock = some b) (node it.k (it.r.map Prod.fst)) it.s := by
  have hit : it ∈ L ++ [it] := by simp
  have hown := h.own
  rw [List.map_append, cells5_append, show (L ++ [it]).length = L.length + 1 by simp] at hown
  have hsub : ∀ k, k ∈ (muts (.slice (some ⟨ob, 0, none⟩) L.length c) L).filterMap id → k ∈ (muts (.slice (some ⟨ob, 0, none⟩) (L.length + 1) c) (L ++ [it])).filterMap id := fun k hk => by
    unfold muts at hk ⊢
    rw [List.map_append, ← List.cons_append, List.filterMap_append]
    exact List.mem_append_left _ hk
  have hnd := h.nodup
  have hsplit : (muts (.slice (some ⟨ob, 0, none⟩) (L.length + 1) c) (L ++ [it])).filterMap id = (muts (.slice (some ⟨ob, 0, none⟩) L.length c) L).filterMap id ++ [it.s.ownBlock].filterMap id := by
    unfold muts
    rw [List.map_append, ← List.cons_append, List.filterMap_append]
    rfl
  rw [hsplit] at hnd
  have hnd' := List.nodup_append.1 hnd
  refine ⟨⟨own_pop hown rfl, fun x hx => ⟨(h.args x (by simp [hx])).1, fun y hy => ((h.args x (by simp [hx])).2 y hy).stay (fun _ h => .inl h) (StayS.refl _ _)⟩, hnd'.1, fun k hk => ?_, fun b hb => ?_, fun b hb => ?_, h.res, h.dblk, h.below, h.tabs, h.two⟩, ?_⟩
  · rintro (h1 | h1)
    · exact h.notS k (hsub k hk) h1
    · exact hnd'.2.2 k hk k (by simp [h1]) rfl
  · rcases hb with h1 | h1
    · exact h.base b h1
    · exact (h.item hit h1).2.2.1
  · rcases hb with h1 | h1
    · exact h.clean b h1
    · rcases (h.args it hit).1.2 with ⟨h2, _⟩ | ⟨g, cap, cur, h2, _, h3, _⟩
      · rw [h2] at h1; cases h1
      · rw [h2] at h1
        have : g = b := by simpa [Value.ownBlock] using h1
        subst this
        exact ⟨cur, h3⟩
  · rw [lay_iff]
    have ha := h.args it hit
    have hr : it.r.length = (it.r.map Prod.fst).length := by simp
    obtain ⟨A, cc, hs, h1, h2⟩ := own_form' ha.1
    rw [hs]
    refine ⟨A, cc, by rw [hr]; rfl, by simpa [node, Dep.args] using h1, ⟨h2, fun e => ?_⟩, fun j a hj => ?_⟩
    · subst e
      rcases ha.1.2 with ⟨h3, _⟩ | ⟨g, cap, cur, h3, _⟩
      · rw [hs] at h3; injection h3
      · rw [hs] at h3; cases h3
    · have hj' : (it.r.map Prod.fst)[j]? = some a := hj
      rw [List.getElem?_map, Option.map_eq_some_iff] at hj'
      obtain ⟨x, hx, rfl⟩ := hj'
      obtain ⟨q0, q1, q2, q3, q4⟩ := cells5_at hx
      have ho := ha.1
      rw [hs] at ho
      obtain ⟨b, rfl, k0⟩ := own_ats ho q0
      obtain ⟨_, e1, k1⟩ := own_ats ho q1
      obtain ⟨_, e2, k2⟩ := own_ats ho q2
      obtain ⟨_, e3, k3⟩ := own_ats ho q3
      obtain ⟨_, e4, k4⟩ := own_ats ho q4
      injection e1 with e1; injection e1 with e1; subst e1
      injection e2 with e2; injection e2 with e2; subst e2
      injection e3 with e3; injection e3 with e3; subst e3
      injection e4 with e4; injection e4 with e4; subst e4
      exact ⟨b, 0, x.2, rfl, .inr rfl, ⟨by simpa using k0, by simpa using k1, by simpa using k2, by simpa using k3, by simpa using k4⟩, (ha.2 x (List.mem_of_getElem? hx)).stay (fun _ h => .inl h) (StayS.refl _ _)⟩
theorem own_set {base n c g size i : Nat} {e : TypeId} {xs : List Value} {u : Value} (h : w.ownsRow base e size (.slice (some ⟨g, 0, none⟩) n c) n xs) : (w.setCell ⟨g, i, none⟩ u).ownsRow base e size (.slice (some ⟨g, 0, none⟩) n c) n (xs.set i u) := by
  obtain ⟨cur, h1, h2, h3, h4, h5, h6⟩ := own_blk h
  exact own_of (h1.set_ i u) h2 h3 h4 (by simpa using h5) (by rw [take_set', h6])
theorem cells5_last (L : List OItem) (it : OItem) : cells5 ((L ++ [it]).map itemRow) = cells5 (L.map itemRow) ++ [.int .i64 it.k, .string ⟨#[]⟩, .int .i64 0, .string ⟨#[]⟩, it.s] := by
  rw [List.map_append, cells5_append]; rfl
/-- The innermost one has its kind. -/
theorem RSt.setK {it : OItem} {ob c : Nat} (h : RSt w0 w S (.slice (some ⟨ob, 0, none⟩) (L.length + 1) c) (L ++ [it]) drow) (k' : Int) :
    RSt w0 (w.setCell ⟨ob, L.length * 5, none⟩ (.int .i64 k')) S (.slice (some ⟨ob, 0, none⟩) (L.length + 1) c) (L ++ [⟨k', it.r, it.s⟩]) drow := by
  have ht : Turned [ob] w (w.setCell ⟨ob, L.length * 5, none⟩ (.int .i64 k')) := (Turned.refl _ _).setCell (.inl (by simp)) _
  have ho := h.open_ (k := ob) rfl
  have hst : StayS S w (w.setCell ⟨ob, L.length * 5, none⟩ (.int .i64 k')) := StayS.turned ht fun b hb hg => ho.1 (by simp at hg; rw [← hg]; exact hb)
  have hown := h.own
  rw [show (L ++ [it]).length = L.length + 1 by simp, cells5_last] at hown
  have hm : muts (.slice (some ⟨ob, 0, none⟩) (L.length + 1) c) (L ++ [⟨k', it.r, it.s⟩]) = muts (.slice (some ⟨ob, 0, none⟩) (L.length + 1) c) (L ++ [it]) := by simp [muts]
  have key : ∀ x ∈ L ++ [it], (w.setCell ⟨ob, L.length * 5, none⟩ (.int .i64 k')).ownsRow (w0.heap.size + 1 + 1) 50 5 x.s x.r.length (cells5 x.r) ∧ ∀ y ∈ x.r, Lay (w.setCell ⟨ob, L.length * 5, none⟩ (.int .i64 k')) S y.1 y.2 := fun x hx =>
    ⟨own_turned (h.args x hx).1 ht (fun k hk hg => (h.item hx hk).2.2.2 (by simp at hg; rw [hg]; rfl)), fun y hy => ((h.args x hx).2 y hy).stay (fun _ h => h) hst⟩
  refine ⟨?_, fun x hx => ?_, hm ▸ h.nodup, hm ▸ h.notS, h.base, h.clean.stay hst, h.res.turned ht (fun hg => ?_), h.dblk.turned ht (fun hg => ?_), ?_, h.tabs.turned ht (fun k hk => ?_), h.two⟩
  · rw [show (L ++ [(⟨k', it.r, it.s⟩ : OItem)]).length = L.length + 1 by simp, cells5_last]
    have := own_set (i := L.length * 5) (u := .int .i64 k') hown
    rw [set_back (i := L.length * 5) _ _ 0 _ (by rw [cells5_len]; simp)] at this
    exact this
  · rcases List.mem_append.1 hx with hx | hx
    · exact key x (by simp [hx])
    · have : x = ⟨k', it.r, it.s⟩ := by simpa using hx
      subst this
      exact key it (by simp)
  · have := ho.2.2; simp at hg; omega
  · have := ho.2.2; simp at hg; omega
  · exact h.below.setCell (by have := ho.2.2; show _ ≤ ob; omega) _
  · have := ho.2.2; have := h.two; simp at hk; omega
/-- The innermost one has an argument more. -/
theorem RSt.put {it : OItem} {ob c g c' : Nat} {d : Dep} {t : Value} {w4 : World} {cg co : Array Value} (h : RSt w0 w S (.slice (some ⟨ob, 0, none⟩) (L.length + 1) c) (L ++ [it]) drow) (hL : Lay w S d t)
    (hown : w4.ownsRow (w0.heap.size + 1 + 1) 50 5 (.slice (some ⟨g, 0, none⟩) (it.r.length + 1) c') (it.r.length + 1) (cells5 it.r ++ [.int .i64 0, .string ⟨#[]⟩, .int .i64 0, .string ⟨#[]⟩, .slice none 0 0]))
    (hg : w.grownBy w4 it.s.ownBlock) (hat : some g = it.s.ownBlock ∨ some g = some w.heap.size) (hcg : Blk w4 g 50 cg) (hco : Blk w4 ob 50 co)
    (hcg' : Blk w' g 50 (((((cg.setIfInBounds (it.r.length * 5) (.int .i64 d.kind)).setIfInBounds (it.r.length * 5 + 1) (.string d.name)).setIfInBounds (it.r.length * 5 + 2) (.int .i64 d.op)).setIfInBounds (it.r.length * 5 + 3) (.string d.evr)).setIfInBounds (it.r.length * 5 + 4) t))
    (hco' : Blk w' ob 50 (co.setIfInBounds (L.length * 5 + 4) (.slice (some ⟨g, 0, none⟩) (it.r.length + 1) c'))) (ht : Turned [g, ob] w4 w') :
    RSt w0 w' S (.slice (some ⟨ob, 0, none⟩) (L.length + 1) c) (L ++ [⟨it.k, it.r ++ [(d, t)], .slice (some ⟨g, 0, none⟩) (it.r.length + 1) c'⟩]) drow := by
  have hit : it ∈ L ++ [it] := by simp
  have ho := h.open_ (k := ob) rfl
  have hG : ∀ k, k ∈ it.s.ownBlock.toList → it.s.ownBlock = some k := fun k hk => by simpa using hk
  have ht4 : Turned it.s.ownBlock.toList w w4 := (Turned.refl _ w).grown hg fun k hk => .inl (by simp [hk])
  have hgS : ¬ S g ∧ w0.heap.size + 1 + 1 ≤ g ∧ g ≠ ob := by
    rcases hat with h1 | h1
    · have := h.item hit h1.symm
      exact ⟨this.1, this.2.2.1, fun e => this.2.2.2 (by rw [e]; rfl)⟩
    · injection h1 with h1
      subst h1
      have := h.below.size
      have := h.res.lt
      have := h.dblk.lt
      refine ⟨fun hs => ?_, by omega, by omega⟩
      obtain ⟨cs, hc⟩ := h.clean _ hs
      have := hc.lt; omega
  have htt : Turned (it.s.ownBlock.toList ++ [g, ob]) w w' := (ht4.more (fun k hk => by simp [hk])).trans (ht.more (F' := it.s.ownBlock.toList ++ [g, ob]) (fun k hk => by simp at hk ⊢; exact .inr hk)) (Fresh.refl _ _)
  have hin : ∀ k, k ∈ it.s.ownBlock.toList ++ [g, ob] → ¬ S k ∧ w0.heap.size + 1 + 1 ≤ k := fun k hk => by
    rcases List.mem_append.1 hk with hk | hk
    · have := h.item hit (hG k hk)
      exact ⟨this.1, this.2.2.1⟩
    · simp at hk
      rcases hk with rfl | rfl
      · exact ⟨hgS.1, hgS.2.1⟩
      · exact ⟨ho.1, ho.2.2⟩
  have hst : StayS S w w' := StayS.turned htt fun b hb hg => (hin b hg).1 hb
  have hown0 := h.own
  rw [show (L ++ [it]).length = L.length + 1 by simp, cells5_last] at hown0
  have hobne : it.s.ownBlock ≠ some ob := fun e => (h.item hit e).2.2.2 rfl
  have hown4 : w4.ownsRow (w0.heap.size + 1 + 1) 50 5 (.slice (some ⟨ob, 0, none⟩) (L.length + 1) c) (L.length + 1) (cells5 (L.map itemRow) ++ [.int .i64 it.k, .string ⟨#[]⟩, .int .i64 0, .string ⟨#[]⟩, it.s]) :=
    own_turned hown0 ht4 (fun k hk hg => hobne ((hG k hg).trans hk.symm))
  obtain ⟨co2, b1, b2, b3, b4, b5, b6⟩ := own_blk hown4
  have eco : co2 = co := by
    have : some (Obj.cells co2 50 (0, 0)) = some (Obj.cells co 50 (0, 0)) := Eq.trans (Eq.symm b1) hco
    injection this with this; injection this
  subst eco
  obtain ⟨cg2, a1, a2, a3, a4, a5, a6⟩ := own_blk hown
  have ecg : cg2 = cg := by
    have : some (Obj.cells cg2 50 (0, 0)) = some (Obj.cells cg 50 (0, 0)) := Eq.trans (Eq.symm a1) hcg
    injection this with this; injection this
  subst ecg
  have hsp : ∀ (v : Value) (x : OItem), (muts v (L ++ [x])).filterMap id = (muts v L).filterMap id ++ [x.s.ownBlock].filterMap id := fun v x => by
    unfold muts
    rw [List.map_append, ← List.cons_append, List.filterMap_append]
    rfl
  have hnd := h.nodup
  rw [hsp] at hnd
  have hnd' := List.nodup_append.1 hnd
  refine ⟨?_, fun x hx => ?_, ?_, fun k hk => ?_, h.base, h.clean.stay hst, h.res.turned htt (fun hg => ?_), h.dblk.turned htt (fun hg => ?_), ?_, h.tabs.turned htt (fun k hk => ?_), h.two⟩
  · rw [show (L ++ [(⟨it.k, it.r ++ [(d, t)], .slice (some ⟨g, 0, none⟩) (it.r.length + 1) c'⟩ : OItem)]).length = L.length + 1 by simp, cells5_last]
    refine own_of hco' b2 b3 b4 (by simpa using b5) ?_
    rw [take_set', b6, set_back (i := L.length * 5 + 4) _ _ 4 _ (by rw [cells5_len]; simp)]
    rfl
  · rcases List.mem_append.1 hx with hxL | hx
    · have ha := h.args x (List.mem_append_left _ hxL)
      refine ⟨own_turned ha.1 htt (fun k hk hm => ?_), fun y hy => (ha.2 y hy).stay (fun _ h => h) hst⟩
      have hkm : k ∈ (muts (.slice (some ⟨ob, 0, none⟩) (L.length + 1) c) L).filterMap id := List.mem_filterMap.2 ⟨some k, by simp [muts]; exact .inr ⟨x, hxL, hk⟩, rfl⟩
      rcases List.mem_append.1 hm with hm | hm
      · exact hnd'.2.2 k hkm k (List.mem_filterMap.2 ⟨it.s.ownBlock, by simp, hG k hm⟩) rfl
      · simp at hm
        rcases hm with rfl | rfl
        · rcases hat with h1 | h1
          · exact hnd'.2.2 k hkm k (List.mem_filterMap.2 ⟨it.s.ownBlock, by simp, h1.symm⟩) rfl
          · injection h1 with h1
            have := (h.item (it := x) (List.mem_append_left _ hxL) hk).2.1
            omega
        · exact (h.item (it := x) (List.mem_append_left _ hxL) hk).2.2.2 rfl
    · have : x = ⟨it.k, it.r ++ [(d, t)], .slice (some ⟨g, 0, none⟩) (it.r.length + 1) c'⟩ := by simpa using hx
      subst this
      refine ⟨?_, fun y hy => ?_⟩
      · show w'.ownsRow _ _ 5 _ (it.r ++ [(d, t)]).length _
        rw [List.length_append, cells5_append]
        refine own_of hcg' a2 a3 a4 (by simpa using a5) ?_
        have hl := cells5_len it.r
        simp only [take_set']
        show ((((((cg2.toList.take ((it.r.length + 1) * 5)).set _ _).set _ _).set _ _).set _ _).set _ _) = _
        rw [a6, set_back (i := it.r.length * 5) _ _ 0 _ (by omega), set_back (i := it.r.length * 5 + 1) _ _ 1 _ (by omega), set_back (i := it.r.length * 5 + 2) _ _ 2 _ (by omega), set_back (i := it.r.length * 5 + 3) _ _ 3 _ (by omega), set_back (i := it.r.length * 5 + 4) _ _ 4 _ (by omega)]
        rfl
      · rcases List.mem_append.1 hy with hy | hy
        · exact ((h.args it hit).2 y hy).stay (fun _ h => h) hst
        · have : y = (d, t) := by simpa using hy
          subst this
          exact hL.stay (fun _ h => h) hst
  · rw [hsp]
    refine List.nodup_append.2 ⟨hnd'.1, by simp [Value.ownBlock], fun a ha b hb => ?_⟩
    have hb' : b = g := by simpa [Value.ownBlock] using hb
    subst hb'
    rintro rfl
    rcases hat with h1 | h1
    · exact hnd'.2.2 a ha a (List.mem_filterMap.2 ⟨it.s.ownBlock, by simp, h1.symm⟩) rfl
    · injection h1 with h1
      subst h1
      obtain ⟨o, ho', he⟩ := List.mem_filterMap.1 ha
      simp only [id_eq] at he
      subst he
      unfold muts at ho'
      rcases List.mem_cons.1 ho' with h2 | h2
      · have := (h.open_ h2.symm).2.1; omega
      · obtain ⟨x, hx, hxk⟩ := List.mem_map.1 h2
        have := (h.item (it := x) (List.mem_append_left _ hx) hxk).2.1; omega
  · rw [hsp] at hk
    rcases List.mem_append.1 hk with hk | hk
    · exact h.notS k (by rw [hsp]; exact List.mem_append_left _ hk)
    · have : k = g := by simpa [Value.ownBlock] using hk
      rw [this]; exact hgS.1
  · have := (hin _ hg).2; omega
  · have := (hin _ hg).2; omega
  · exact h.below.trans (htt.below (fun k hk => by have := (hin k hk).2; omega) h.below.size)
  · have := (hin k hk).2; have := h.two; omega
end
end Go.Proofs.YtpmfmkpfjomgnaaGreatDoor

/- The reference's count of names; two that are the same. The reference's forms. -/
namespace Go.Proofs.YtpmfmkpfjomgnaaGreatDoor
set_option linter.unusedSimpArgs false
set_option linter.unusedVariables false
open Go.RowKit

theorem leaves_nodes (d : Dep) : leaves d ≤ nodes d := by
  induction d using Dep.ind with
  | h k n o e xs ih =>
    have h : ∀ bs : List Dep, (∀ b ∈ bs, leaves b ≤ nodes b) → leavesA bs ≤ nodesA bs := by
      intro bs
      induction bs with
      | nil => intro _; simp [leavesA, nodesA]
      | cons b r ihr =>
        intro hb
        have h1 := hb b (by simp)
        have h2 := ihr fun x hx => hb x (by simp [hx])
        simp only [leavesA, nodesA]
        omega
    have := h xs ih
    simp only [leaves, nodes]
    split <;> omega
theorem leavesA_take {xs : List Dep} {k : Nat} {a : Dep} (h : xs[k]? = some a) : leavesA (xs.take (k + 1)) = leavesA (xs.take k) + leaves a := by
  rw [List.take_add_one, h, leavesA_append]
  simp [leavesA]
theorem leavesA_le {xs : List Dep} (k : Nat) : leavesA (xs.take k) ≤ leavesA xs := by
  have : leavesA xs = leavesA (xs.take k) + leavesA (xs.drop k) := by rw [← leavesA_append, List.take_append_drop]
  omega
theorem leavesA_nodesA (xs : List Dep) : leavesA xs ≤ nodesA xs := by
  induction xs with
  | nil => simp [leavesA, nodesA]
  | cons b r ih => have := leaves_nodes b; simp only [leavesA, nodesA]; omega
def PartsOk (d : Dep) : Prop := ∀ (s : Value) (S : Nat → Prop) (w : World), Lay w S d s → nodes d ≤ 4194304 → Calls Tryz.prog 187 #[.agg (rowD d s)] w fun e w' => e = .returned (.int .i64 (leaves d : Int)) ∧ Below w.heap.size w w'
set_option maxHeartbeats 2000000 in
set_option maxRecDepth 100000 in
theorem refParts_node (d : Dep) (ih : ∀ a ∈ d.args, PartsOk a) : PartsOk d := by
  intro s S w hL hN
  obtain ⟨A, c, rfl, hc1, hc2, hA⟩ := hL.args_
  have hn := nodes_parts d
  have hge := nodesA_ge d.args
  obtain ⟨w1, hw1⟩ : ∃ w1, w1 = w.alloc (.cells (rowD d (.slice A d.args.length c)) 50) := ⟨_, rfl⟩
  have hB1 : Below w.heap.size w w1 := by rw [hw1]; exact (Below.refl _ _).alloc (Nat.le_refl _) _
  have K : Blk w1 w.heap.size 50 (rowD d (.slice A d.args.length c)) := by rw [hw1]; exact Blk.new _ _ _
  have hz1 : w1.heap.size = w.heap.size + 1 := by rw [hw1]; simp
  have hA1 : ArgsAt w1 S d.args A := hA.stay (fun _ h => h) (StayS.below' hB1)
  have HF : Hid (∀ wx, Below w1.heap.size w1 wx → Blk wx w.heap.size 50 (rowD d (.slice A d.args.length c)) ∧ ArgsAt wx S d.args A ∧ Below w.heap.size w wx) := fun wx hb => ⟨K.below hb (by omega), hA1.stay (fun _ h => h) (StayS.below' hb), hB1.trans (hb.mono (by omega))⟩
  have HIH := Lib.hid ih
  have H0 := Lib.hid (Below.refl w1.heap.size w1)
  have HLv : Hid (leaves d = if d.kind = 1 then 1 else leavesA d.args) := by cases d; rfl
  have HLe := Lib.hid (leavesA_le (xs := d.args))
  have HLn : Hid (leavesA d.args ≤ 4194304) := by
    have := leavesA_nodesA d.args
    show _ ≤ _
    omega
  have HNm : Hid (∀ a ∈ d.args, nodes a ≤ 4194304) := fun a ha => by have := nodesA_mem ha; omega
  have hargs : d.args.length ≤ 4194304 := by omega
  have hlt0 : w.heap.size < w1.heap.size := by omega
  clear hL hA hn hge hB1 K hA1 ih hN hc2
  by_cases hk : d.kind = 1
  · have t1 : (d.kind == 1) = true := by rw [hk]; rfl
    have HV : Hid (leaves d = 1) := by show _ = _; rw [HLv.out, if_pos hk]
    have HB := Lib.hid (HF.out w1 H0.out).2.2
    clear hk HLv HF H0 HLe HLn
    subst hw1
    unfold rowD at HB ⊢
    go_enter Tryz.func187, Tryz.ntmps187
    go_wp2_with fail
    go_ret
    exact ⟨by rw [HV.out]; rfl, HB.out⟩
  · have t1 : (d.kind == 1) = false := beq_eq_false_iff_ne.2 hk
    have HV : Hid (leaves d = leavesA d.args) := by show _ = _; rw [HLv.out, if_neg hk]
    clear hk HLv hz1 hlt0
    obtain ⟨R, HR⟩ : ∃ R : World → Prop, Hid (∀ wx, R wx ↔ Below w1.heap.size w1 wx) := ⟨fun wx => Below w1.heap.size w1 wx, fun _ => Iff.rfl⟩
    have HR0 : Hid (R w1) := (HR.out _).2 H0.out
    clear H0
    subst hw1
    unfold rowD at HR HR0 HF ⊢
    go_enter Tryz.func187, Tryz.ntmps187
    go_wp2_with fail
    go_loopw [3, 4] (fun v3 v4 wx => ∃ (k m : Nat), k ≤ d.args.length ∧ v4 = .int .i64 (k : Int) ∧ v3 = .int .i64 (m : Int) ∧ Hid (m = leavesA (d.args.take k)) ∧ Hid (R wx)) (fun _ v4 _ => d.args.length - (intOf v4).toNat)
    case atStart => exact ⟨0, 0, Nat.zero_le _, rfl, rfl, rfl, HR0⟩
    case round =>
      clear HR0
      obtain ⟨k, m, hkn, rfl, rfl, hm, HRr⟩ := hrel
      obtain ⟨Kr, hAr, hBr⟩ := HF.out wr ((HR.out _).1 HRr.out)
      have c4 := Kr.cell 4
      simp at c4
      have hmle : m ≤ 4194304 := by have h1 := HLe.out k; have h2 := HLn.out; have h3 := hm.out; omega
      by_cases hlt : k < d.args.length
      · obtain ⟨a, ha⟩ : ∃ a, d.args[k]? = some a := ⟨_, List.getElem?_eq_getElem hlt⟩
        obtain ⟨b', o', t, hA', hSb, hC, hLa⟩ := hAr k a ha
        obtain ⟨At, ct, rfl, _, _⟩ := hLa.form_
        subst hA'
        obtain ⟨e0, e1, e2, e3, e4⟩ := hC
        have CI := Lib.hid (HIH.out a (List.mem_of_getElem? ha) _ S wr hLa (HNm.out a (List.mem_of_getElem? ha)))
        have hal := leaves_nodes a
        have haN := HNm.out a (List.mem_of_getElem? ha)
        have hal2 : leaves a ≤ 4194304 := by omega
        have HM : Hid (m + leaves a = leavesA (d.args.take (k + 1))) := by show _ = _; rw [leavesA_take ha, ← hm.out]
        have HRr2 : Hid (∀ w', Below wr.heap.size wr w' → R w') := fun w' hb => by
          have h1 := (HR.out _).1 HRr.out
          exact (HR.out _).2 (h1.trans (hb.mono h1.size))
        clear Kr hAr hBr hLa ha hal haN hm HRr
        unfold rowD at CI
        go_wp2_with fail
        refine CI.out.mono ?_
        rintro e w3 ⟨rfl, hb3⟩
        have HR3 := Lib.hid (HRr2.out w3 hb3)
        clear hb3 CI HRr2
        go_wp2_with fail
        go_roundw
        case rel => exact ⟨k + 1, m + leaves a, by omega, by go_num, by go_num, HM, HR3⟩
        case measure => simp [intOf]; omega
      · have HM : Hid (m = leaves d) := by
          show _ = _
          rw [hm.out, HV.out, List.take_of_length_le (by omega)]
        have HB := Lib.hid hBr
        clear Kr hAr hBr hm
        go_wp2_with fail
        go_ret
        exact ⟨by rw [HM.out]; rfl, HB.out⟩
theorem refParts_any (d : Dep) : PartsOk d := by
  induction d using Dep.ind with
  | h k n o e xs ih => exact refParts_node _ ih

def SameOk (d : Dep) : Prop := ∀ (s s' : Value) (S S' : Nat → Prop) (w : World), Lay w S d s → Lay w S' d s' → Calls Tryz.prog 139 #[.agg (rowD d s), .agg (rowD d s')] w fun e w' => e = .returned (.bool true) ∧ Below w.heap.size w w'
theorem str_self (a : ByteArray) : (a.toList != a.toList) = false ∧ (a.toList == a.toList) = true := by simp
set_option maxHeartbeats 4000000 in
set_option maxRecDepth 100000 in
theorem refSame_node (d : Dep) (ih : ∀ a ∈ d.args, SameOk a) : SameOk d := by
  intro s s' S S' w hL hL'
  obtain ⟨A, c, rfl, hc1, hc2, hA⟩ := hL.args_
  obtain ⟨A', c', rfl, hc1', hc2', hA'⟩ := hL'.args_
  obtain ⟨w1, hw1⟩ : ∃ w1, w1 = (w.alloc (.cells (rowD d (.slice A d.args.length c)) 50)).alloc (.cells (rowD d (.slice A' d.args.length c')) 50) := ⟨_, rfl⟩
  have hB1 : Below w.heap.size w w1 := by rw [hw1]; exact ((Below.refl _ _).alloc (Nat.le_refl _) _).alloc (by simp) _
  have K : Blk w1 w.heap.size 50 (rowD d (.slice A d.args.length c)) := by rw [hw1]; exact (Blk.new _ _ _).alloc _
  have K' : Blk w1 (w.heap.size + 1) 50 (rowD d (.slice A' d.args.length c')) := by rw [hw1]; exact Blk.new' (by simp)
  have hz1 : w1.heap.size = w.heap.size + 2 := by rw [hw1]; simp
  have hA1 : ArgsAt w1 S d.args A := hA.stay (fun _ h => h) (StayS.below' hB1)
  have hA1' : ArgsAt w1 S' d.args A' := hA'.stay (fun _ h => h) (StayS.below' hB1)
  have HF : Hid (∀ wx, Below w1.heap.size w1 wx → Blk wx w.heap.size 50 (rowD d (.slice A d.args.length c)) ∧ Blk wx (w.heap.size + 1) 50 (rowD d (.slice A' d.args.length c')) ∧ ArgsAt wx S d.args A ∧ ArgsAt wx S' d.args A' ∧ Below w.heap.size w wx) := fun wx hb => ⟨K.below hb (by omega), K'.below hb (by omega), hA1.stay (fun _ h => h) (StayS.below' hb), hA1'.stay (fun _ h => h) (StayS.below' hb), hB1.trans (hb.mono (by omega))⟩
  have HIH := Lib.hid ih
  have hargs : d.args.length ≤ 9223372036854775807 := by unfold maxLen at hc2; omega
  obtain ⟨R, HR⟩ : ∃ R : World → Prop, Hid (∀ wx, R wx ↔ Below w1.heap.size w1 wx) := ⟨fun wx => Below w1.heap.size w1 wx, fun _ => Iff.rfl⟩
  have HR0 : Hid (R w1) := (HR.out _).2 (Below.refl _ _)
  obtain ⟨e1, e2⟩ := str_self d.name
  obtain ⟨e3, e4⟩ := str_self d.evr
  clear hL hL' hA hA' hB1 K K' hA1 hA1' ih hz1 hc2 hc2'
  subst hw1
  unfold rowD at HR HR0 HF ⊢
  go_enter Tryz.func139, Tryz.ntmps139
  go_wp2_with fail
  go_loopw [5] (fun v5 wx => ∃ (k : Nat), k ≤ d.args.length ∧ v5 = .int .i64 (k : Int) ∧ Hid (R wx)) (fun v5 _ => d.args.length - (intOf v5).toNat)
  case atStart => exact ⟨0, Nat.zero_le _, rfl, HR0⟩
  case round =>
    clear HR0
    obtain ⟨k, hkn, rfl, HRr⟩ := hrel
    obtain ⟨Kr, Kr', hAr, hAr', hBr⟩ := HF.out wr ((HR.out _).1 HRr.out)
    have c4 := Kr.cell 4
    have c4' := Kr'.cell 4
    simp at c4 c4'
    by_cases hlt : k < d.args.length
    · obtain ⟨a, ha⟩ : ∃ a, d.args[k]? = some a := ⟨_, List.getElem?_eq_getElem hlt⟩
      obtain ⟨b1, o1, t1, hA1, _, hC1, hLa1⟩ := hAr k a ha
      obtain ⟨b2, o2, t2, hA2, _, hC2, hLa2⟩ := hAr' k a ha
      obtain ⟨At1, ct1, rfl, _, _⟩ := hLa1.form_
      obtain ⟨At2, ct2, rfl, _, _⟩ := hLa2.form_
      subst hA1
      subst hA2
      obtain ⟨g0, g1, g2, g3, g4⟩ := hC1
      obtain ⟨h0, h1, h2, h3, h4⟩ := hC2
      have CI := Lib.hid (HIH.out a (List.mem_of_getElem? ha) _ _ S S' wr.drew (Lay.stay (fun _ h => h) (show StayS S wr wr.drew from fun _ _ _ => rfl) a _ hLa1) (Lay.stay (fun _ h => h) (show StayS S' wr wr.drew from fun _ _ _ => rfl) a _ hLa2))
      have HRr2 : Hid (∀ w', Below wr.drew.heap.size wr.drew w' → R w') := fun w' hb => by
        have hx1 := (HR.out _).1 HRr.out
        exact (HR.out _).2 ((below_drewN' hx1 1).trans (hb.mono hx1.size))
      clear Kr Kr' hAr hAr' hLa1 hLa2 ha HRr
      unfold rowD at CI
      go_wp2_with fail
      go_still_tail 10, (by kernel_rfl)
      go_wp2_with fail
      refine CI.out.mono ?_
      rintro e w3 ⟨rfl, hb3⟩
      have HR3 := Lib.hid (HRr2.out w3 hb3)
      clear hb3 CI HRr2
      go_wp2_with fail
      go_roundw
      case rel => exact ⟨k + 1, by omega, by go_num, HR3⟩
      case measure => simp [intOf]; omega
    · have HB := Lib.hid hBr
      clear Kr Kr' hAr hAr' hBr
      go_wp2_with fail
      go_ret
      exact ⟨rfl, HB.out⟩
theorem refSame_any (d : Dep) : SameOk d := by
  induction d using Dep.ind with
  | h k n o e xs ih => exact refSame_node _ ih
end Go.Proofs.YtpmfmkpfjomgnaaGreatDoor
namespace Go.Proofs.YtpmfmkpfjomgnaaGreatDoor
set_option linter.unusedSimpArgs false
set_option linter.unusedVariables false
open Go.RowKit

theorem forms_all : ∀ xs : List Dep, forms xs = xs.all form
  | [] => rfl
  | a :: r => by simp only [forms, List.all_cons, forms_all r]
def okA (K : Int) (a : Dep) : Bool := (decide (K < 5) || single a) && form a
theorem all_okA (K : Int) : ∀ xs : List Dep, xs.all (okA K) = ((decide (K < 5) || xs.all single) && xs.all form)
  | [] => by simp
  | a :: r => by
    simp only [List.all_cons, all_okA K r, okA]
    cases decide (K < 5) <;> cases single a <;> cases form a <;> cases r.all single <;> cases r.all form <;> rfl
theorem form_leafB {n e : ByteArray} {o : Int} {xs : List Dep} : form (.mk 1 n o e xs) = (nameB n.data.toList && mayCmp o e.data.toList && decide (xs.length = 0)) := by
  simp only [form]
  have hm : mayPart (.mk 1 n o e xs) = (nameB n.data.toList && mayCmp o e.data.toList && decide (xs.length = 0)) := by unfold mayPart; rw [if_pos (show (Dep.mk 1 n o e xs).kind = 1 from rfl)]; rfl
  rw [hm]
  cases xs with
  | nil => simp [forms]
  | cons a r => simp
theorem form_conds {K o : Int} {n e : ByteArray} {xs : List Dep} (hk : K ≠ 1) (h : form (.mk K n o e xs) = true) : 2 ≤ K ∧ K ≤ 6 ∧ n.data.toList = [] ∧ o = 0 ∧ e.data.toList = [] ∧ 2 ≤ xs.length ∧ (K = 4 → xs.length ≤ 3) ∧ (K = 6 → xs.length = 2) := by
  obtain ⟨h1, h2, h3, h4⟩ := may_node (form_may h) hk
  obtain ⟨a1, a2, a3, a4, a5⟩ := args_kind h4
  exact ⟨a1, a2, h1, h2, h3, a3, a4, a5⟩
theorem form_nodeB {K : Int} {xs : List Dep} (h2 : 2 ≤ K) (h6 : K ≤ 6) (hn : 2 ≤ xs.length) (h4 : K = 4 → xs.length ≤ 3) (h5 : K = 6 → xs.length ≤ 2) : form (.mk K ⟨#[]⟩ 0 ⟨#[]⟩ xs) = xs.all (okA K) := by
  have hm : mayPart (.mk K ⟨#[]⟩ 0 ⟨#[]⟩ xs) = numArgs K xs := by
    unfold mayPart
    rw [if_neg (show ¬ (Dep.mk K ⟨#[]⟩ 0 ⟨#[]⟩ xs).kind = 1 by simp only [Dep.kind]; omega)]
    simp [Dep.name, Dep.op, Dep.evr, Dep.args, Dep.kind]
  simp only [form]
  rw [hm, all_okA, forms_all]
  have hc : K = 2 ∨ K = 3 ∨ K = 4 ∨ K = 5 ∨ K = 6 := by omega
  unfold numArgs
  rcases hc with rfl | rfl | rfl | rfl | rfl
  · simp [hn]
  · simp [hn]
  · have : xs.length = 2 ∨ xs.length = 3 := by have := h4 rfl; omega
    simp [this]
  · simp [hn]
  · have : xs.length = 2 := by have := h5 rfl; omega
    simp [this]
def FormOk (d : Dep) : Prop := ∀ (s : Value) (S : Nat → Prop) (w : World), Lay w S d s → small d → Calls Tryz.prog 186 #[.agg (rowD d s)] w fun e w' => e = .returned (.bool (form d)) ∧ Below w.heap.size w w'
set_option maxHeartbeats 4000000 in
set_option maxRecDepth 1000000 in
theorem refForm_leaf (n : ByteArray) (o : Int) (ev : ByteArray) (xs : List Dep) : FormOk (.mk 1 n o ev xs) := by
  intro s S w hL hsm
  obtain ⟨A, c, rfl, hc1, hc2⟩ := hL.form_
  obtain ⟨hz1, hz2, _⟩ := small_parts hsm
  simp only [Dep.name, Dep.evr, Dep.args] at hz1 hz2 hc1 ⊢
  obtain ⟨x, hx⟩ : ∃ x, Hid (x = form (.mk 1 n o ev xs)) := ⟨_, rfl⟩
  rw [← hx.out]
  have HX : Hid (x = (nameB n.data.toList && mayCmp o ev.data.toList && decide (xs.length = 0))) := hx.out.trans form_leafB
  have HB : Hid (Below w.heap.size w (w.alloc (.cells #[.int .i64 1, .string n, .int .i64 o, .string ev, .slice A xs.length c] 50))) := (Below.refl _ _).alloc (Nat.le_refl _) _
  have CN := Lib.hid (fun w => refNameD_any n (by unfold maxLen; omega) w)
  have CP := Lib.hid (fun w => refParse_any ev (by unfold maxLen; omega) w)
  obtain ⟨nb, hnb⟩ : ∃ nb, Hid (nb = nameB n.data.toList) := ⟨_, rfl⟩
  rw [← hnb.out] at CN HX
  have hlb : (xs.length : Int) ≤ 9223372036854775807 := by unfold maxLen at hc2; omega
  unfold rowD
  simp only [Dep.kind, Dep.name, Dep.op, Dep.evr, Dep.args]
  clear hL hsm hx hz1 hz2 hc2 hc1 hnb
  cases nb with
  | false =>
    have HV : Hid (x = false) := HX.out
    clear HX CP
    go_enter Tryz.func186, Tryz.ntmps186
    go_wp2_with fail
    refine (CN.out _).mono ?_
    rintro e w' ⟨rfl, rfl⟩
    go_wp2_with fail
    go_ret
    exact ⟨by rw [HV.out]; rfl, HB.out⟩
  | true =>
    by_cases h0 : o < 0
    · have HV : Hid (x = false) := by
        show x = _
        rw [HX.out]
        unfold mayCmp
        rw [if_neg (by omega), decide_eq_false (show ¬ 0 ≤ o by omega)]
        simp
      clear HX CP
      go_enter Tryz.func186, Tryz.ntmps186
      go_wp2_with fail
      refine (CN.out _).mono ?_
      rintro e w' ⟨rfl, rfl⟩
      go_wp2_with fail
      go_ret
      exact ⟨by rw [HV.out]; rfl, HB.out⟩
    by_cases h7 : 7 < o
    · have HV : Hid (x = false) := by
        show x = _
        rw [HX.out]
        unfold mayCmp
        rw [if_neg (by omega), decide_eq_false (show ¬ o < 8 by omega)]
        simp
      clear HX CP
      go_enter Tryz.func186, Tryz.ntmps186
      go_wp2_with fail
      refine (CN.out _).mono ?_
      rintro e w' ⟨rfl, rfl⟩
      go_wp2_with fail
      go_ret
      exact ⟨by rw [HV.out]; rfl, HB.out⟩
    by_cases hn : 0 < xs.length
    · have HV : Hid (x = false) := by
        show x = _
        rw [HX.out, decide_eq_false (show ¬ xs.length = 0 by omega)]
        simp
      have hnI : (0 : Int) < (xs.length : Int) := by omega
      clear HX CP
      go_enter Tryz.func186, Tryz.ntmps186
      go_wp2_with fail
      refine (CN.out _).mono ?_
      rintro e w' ⟨rfl, rfl⟩
      go_wp2_with fail
      go_ret
      exact ⟨by rw [HV.out]; rfl, HB.out⟩
    have hnI : ¬ (0 : Int) < (xs.length : Int) := by omega
    have HX2 : Hid (x = mayCmp o ev.data.toList) := by
      show x = _
      rw [HX.out, decide_eq_true (show xs.length = 0 by omega)]
      simp
    clear HX hn
    by_cases ho : o = 0
    · subst ho
      by_cases he : ev.data.toList = []
      · have HV : Hid (x = true) := by show x = _; rw [HX2.out, he]; rfl
        obtain rfl := empty_back he
        clear HX2 CP he
        go_enter Tryz.func186, Tryz.ntmps186
        go_wp2_with fail
        refine (CN.out _).mono ?_
        rintro e w' ⟨rfl, rfl⟩
        go_wp2_with fail
        go_ret
        exact ⟨by rw [HV.out]; rfl, HB.out⟩
      · have HV : Hid (x = false) := by show x = _; rw [HX2.out]; unfold mayCmp; rw [if_pos rfl, decide_eq_false he]
        obtain ⟨b1, b2, b3⟩ := blank_of (blank_no he)
        have b4 : (ev.toList == []) = false := by rw [ByteArray.toList_eq]; exact beq_eq_false_iff_ne.2 he
        clear HX2 CP he b3
        go_enter Tryz.func186, Tryz.ntmps186
        go_wp2_with fail
        refine (CN.out _).mono ?_
        rintro e w' ⟨rfl, rfl⟩
        go_wp2_with fail
        go_ret
        exact ⟨by rw [HV.out]; rfl, HB.out⟩
    · have t0 : (o == 0) = false := beq_eq_false_iff_ne.2 ho
      have HV0 : Hid (x = evrB ev.data.toList) := by
        show x = _
        rw [HX2.out]
        unfold mayCmp
        rw [if_neg ho, decide_eq_true (show 0 ≤ o by omega), decide_eq_true (show o < 8 by omega)]
        rfl
      clear HX2 ho
      unfold evrB at HV0
      generalize parse ev.data.toList = P at CP HV0
      cases P with
      | none =>
        have HV : Hid (x = false) := HV0.out
        clear HV0
        go_enter Tryz.func186, Tryz.ntmps186
        go_wp2_with fail
        refine (CN.out _).mono ?_
        rintro e w' ⟨rfl, rfl⟩
        go_wp2_with fail
        refine (CP.out _).mono ?_
        rintro e w2 ⟨rfl, hb2⟩
        have HB2 : Hid (Below w.heap.size w w2) := HB.out.trans (hb2.mono (by simp))
        clear hb2 HB CP CN
        unfold evrV errV
        go_wp2_with fail
        go_ret
        exact ⟨by rw [HV.out]; rfl, HB2.out.alloc HB2.out.size _⟩
      | some q =>
        have HV : Hid (x = true) := HV0.out
        clear HV0
        go_enter Tryz.func186, Tryz.ntmps186
        go_wp2_with fail
        refine (CN.out _).mono ?_
        rintro e w' ⟨rfl, rfl⟩
        go_wp2_with fail
        refine (CP.out _).mono ?_
        rintro e w2 ⟨rfl, hb2⟩
        have HB2 : Hid (Below w.heap.size w w2) := HB.out.trans (hb2.mono (by simp))
        clear hb2 HB CP CN
        unfold evrV errV
        go_wp2_with fail
        go_ret
        exact ⟨by rw [HV.out]; rfl, HB2.out.alloc HB2.out.size _⟩
end Go.Proofs.YtpmfmkpfjomgnaaGreatDoor

/- The reference's forms of what has arguments; its check. -/
namespace Go.Proofs.YtpmfmkpfjomgnaaGreatDoor
set_option linter.unusedSimpArgs false
set_option linter.unusedVariables false
open Go.RowKit

theorem all_take {xs : List Dep} {k : Nat} {a : Dep} (K : Int) (h : xs[k]? = some a) : (xs.take (k + 1)).all (okA K) = ((xs.take k).all (okA K) && okA K a) := by
  rw [List.take_add_one, h, List.all_append]
  simp
theorem all_no {xs : List Dep} {k : Nat} {a : Dep} {K : Int} (h : xs[k]? = some a) (hf : okA K a = false) : xs.all (okA K) = false := by
  cases hx : xs.all (okA K) with
  | false => rfl
  | true =>
    have := List.all_eq_true.1 hx a (List.mem_of_getElem? h)
    rw [hf] at this
    cases this
set_option maxHeartbeats 8000000 in
set_option maxRecDepth 1000000 in
theorem refForm_node (K : Int) (n : ByteArray) (o : Int) (ev : ByteArray) (xs : List Dep) (hk : K ≠ 1) (ih : ∀ a ∈ xs, FormOk a) : FormOk (.mk K n o ev xs) := by
  intro s S w hL hsm
  obtain ⟨A, c, rfl, hc1, hc2, hA⟩ := hL.args_
  obtain ⟨hz1, hz2, hz3⟩ := small_parts hsm
  simp only [Dep.name, Dep.evr, Dep.args] at hz1 hz2 hz3 hc1 hA ⊢
  have hlb : xs.length ≤ 9223372036854775807 := by unfold maxLen at hc2; omega
  obtain ⟨x, hx⟩ : ∃ x, Hid (x = form (.mk K n o ev xs)) := ⟨_, rfl⟩
  rw [← hx.out]
  have HXN : Hid ((form (.mk K n o ev xs) = true → False) → x = false) := fun h => by
    show x = false
    rw [hx.out]
    cases hf : form (.mk K n o ev xs) with
    | false => rfl
    | true => exact (h hf).elim
  have HXA : Hid (n.data.toList = [] → o = 0 → ev.data.toList = [] → 2 ≤ K → K ≤ 6 → 2 ≤ xs.length → (K = 4 → xs.length ≤ 3) → (K = 6 → xs.length ≤ 2) → x = xs.all (okA K)) := fun a1 a2 a3 a4 a5 a6 a7 a8 => by
    show x = _
    rw [hx.out, empty_back a1, a2, empty_back a3]
    exact form_nodeB a4 a5 a6 a7 a8
  have hFC : form (.mk K n o ev xs) = true → _ := form_conds hk
  obtain ⟨w1, hw1⟩ : ∃ w1, w1 = w.alloc (.cells #[.int .i64 K, .string n, .int .i64 o, .string ev, .slice A xs.length c] 50) := ⟨_, rfl⟩
  have HB : Hid (Below w.heap.size w w1) := by rw [hw1]; exact (Below.refl _ _).alloc (Nat.le_refl _) _
  have K0 : Blk w1 w.heap.size 50 #[.int .i64 K, .string n, .int .i64 o, .string ev, .slice A xs.length c] := by rw [hw1]; exact Blk.new _ _ _
  have hz : w1.heap.size = w.heap.size + 1 := by rw [hw1]; simp
  have hA1 : ArgsAt w1 S xs A := hA.stay (fun _ h => h) (StayS.below' HB.out)
  have HF : Hid (∀ wx, Below w1.heap.size w1 wx → Blk wx w.heap.size 50 #[.int .i64 K, .string n, .int .i64 o, .string ev, .slice A xs.length c] ∧ ArgsAt wx S xs A ∧ Below w.heap.size w wx) := fun wx hb => ⟨K0.below hb (by omega), hA1.stay (fun _ h => h) (StayS.below' hb), HB.out.trans (hb.mono (by omega))⟩
  have HIH : Hid (∀ a ∈ xs, FormOk a ∧ small a) := fun a ha => ⟨ih a ha, hz3 a ha⟩
  obtain ⟨R, HR⟩ : ∃ R : World → Prop, Hid (∀ wx, R wx ↔ Below w1.heap.size w1 wx) := ⟨fun wx => Below w1.heap.size w1 wx, fun _ => Iff.rfl⟩
  have HR0 : Hid (R w1) := (HR.out _).2 (Below.refl _ _)
  have hk1 : (K == 1) = false := beq_eq_false_iff_ne.2 hk
  have hk1' : ¬ K = 1 := hk
  have HFC := Lib.hid hFC
  unfold rowD
  simp only [Dep.kind, Dep.name, Dep.op, Dep.evr, Dep.args]
  clear hL hsm hA hz1 hz2 hz3 hx hFC K0 hA1 ih hz hk hc2 hc1
  subst hw1
  by_cases h2 : K < 2
  · have HV : Hid (x = false) := HXN.out (fun h => by have := HFC.out h; omega)
    clear HXN HXA HF HIH HR0 HR HFC
    go_enter Tryz.func186, Tryz.ntmps186
    go_wp2_with fail
    go_ret
    exact ⟨by rw [HV.out]; rfl, HB.out⟩
  by_cases h6 : 6 < K
  · have HV : Hid (x = false) := HXN.out (fun h => by have := HFC.out h; omega)
    clear HXN HXA HF HIH HR0 HR HFC
    go_enter Tryz.func186, Tryz.ntmps186
    go_wp2_with fail
    go_ret
    exact ⟨by rw [HV.out]; rfl, HB.out⟩
  by_cases hn : n.data.toList ≠ []
  · have HV : Hid (x = false) := HXN.out (fun h => hn (HFC.out h).2.2.1)
    obtain ⟨b1, b2, b3⟩ := blank_of (blank_no hn)
    have b4 : (n.toList == []) = false := by rw [ByteArray.toList_eq]; exact beq_eq_false_iff_ne.2 hn
    clear hn b3
    clear HXN HXA HF HIH HR0 HR HFC
    go_enter Tryz.func186, Tryz.ntmps186
    go_wp2_with fail
    go_ret
    exact ⟨by rw [HV.out]; rfl, HB.out⟩
  have hn : n.data.toList = [] := Classical.not_not.1 hn
  have hn0 := empty_back hn
  subst hn0
  by_cases ho : o ≠ 0
  · have HV : Hid (x = false) := HXN.out (fun h => ho (HFC.out h).2.2.2.1)
    have t0 : (o != 0) = true := bne_iff_ne.2 ho
    clear ho
    clear HXN HXA HF HIH HR0 HR HFC
    go_enter Tryz.func186, Tryz.ntmps186
    go_wp2_with fail
    go_ret
    exact ⟨by rw [HV.out]; rfl, HB.out⟩
  have ho : o = 0 := Classical.not_not.1 ho
  subst ho
  by_cases he : ev.data.toList ≠ []
  · have HV : Hid (x = false) := HXN.out (fun h => he (HFC.out h).2.2.2.2.1)
    obtain ⟨b1, b2, b3⟩ := blank_of (blank_no he)
    have b4 : (ev.toList == []) = false := by rw [ByteArray.toList_eq]; exact beq_eq_false_iff_ne.2 he
    clear he b3
    clear HXN HXA HF HIH HR0 HR HFC
    go_enter Tryz.func186, Tryz.ntmps186
    go_wp2_with fail
    go_ret
    exact ⟨by rw [HV.out]; rfl, HB.out⟩
  have he : ev.data.toList = [] := Classical.not_not.1 he
  have he0 := empty_back he
  subst he0
  by_cases hl : xs.length < 2
  · have HV : Hid (x = false) := HXN.out (fun h => by have := HFC.out h; omega)
    have t0 : (xs.length : Int) < 2 := by omega
    clear HXN HXA HF HIH HR0 HR HFC
    go_enter Tryz.func186, Tryz.ntmps186
    go_wp2_with fail
    go_ret
    exact ⟨by rw [HV.out]; rfl, HB.out⟩
  have hlI : ¬ (xs.length : Int) < 2 := by omega
  by_cases h4 : K = 4 ∧ 3 < xs.length
  · have HV : Hid (x = false) := HXN.out (fun h => by have := (HFC.out h).2.2.2.2.2.2.1 h4.1; omega)
    obtain ⟨rfl, h4⟩ := h4
    have t0 : (3 : Int) < (xs.length : Int) := by omega
    clear HXN HXA HF HIH HR0 HR HFC
    go_enter Tryz.func186, Tryz.ntmps186
    go_wp2_with fail
    go_ret
    exact ⟨by rw [HV.out]; rfl, HB.out⟩
  by_cases h5 : K = 6 ∧ 2 < xs.length
  · have HV : Hid (x = false) := HXN.out (fun h => by have := (HFC.out h).2.2.2.2.2.2.2 h5.1; omega)
    obtain ⟨rfl, h5⟩ := h5
    have t0 : (2 : Int) < (xs.length : Int) := by omega
    clear HXN HXA HF HIH HR0 HR HFC
    go_enter Tryz.func186, Tryz.ntmps186
    go_wp2_with fail
    go_ret
    exact ⟨by rw [HV.out]; rfl, HB.out⟩
  have HXX : Hid (x = xs.all (okA K)) := HXA.out hn rfl he (by omega) (by omega) (by omega) (fun h => by have : ¬ 3 < xs.length := fun h' => h4 ⟨h, h'⟩; omega) (fun h => by have : ¬ 2 < xs.length := fun h' => h5 ⟨h, h'⟩; omega)
  have hkc : K = 4 ∨ K = 6 ∨ ((K == 4) = false ∧ (K == 6) = false ∧ ¬ K = 4 ∧ ¬ K = 6) := by
    by_cases a : K = 4
    · exact .inl a
    · by_cases b : K = 6
      · exact .inr (.inl b)
      · exact .inr (.inr ⟨beq_eq_false_iff_ne.2 a, beq_eq_false_iff_ne.2 b, a, b⟩)
  have hk4 : K = 4 → ¬ (3 : Int) < (xs.length : Int) := fun h h' => h4 ⟨h, by omega⟩
  have hk6 : K = 6 → ¬ (2 : Int) < (xs.length : Int) := fun h h' => h5 ⟨h, by omega⟩
  clear h4 h5 HXN HXA HFC hn he
  rcases hkc with rfl | rfl | ⟨q1, q2, q3, q4⟩
  · have t34 := hk4 rfl
    clear hk4 hk6
    go_enter Tryz.func186, Tryz.ntmps186
    go_wp2_with fail
    go_loopw [7] (fun v7 wx => ∃ (k : Nat), k ≤ xs.length ∧ v7 = .int .i64 (k : Int) ∧ Hid ((xs.take k).all (okA (4 : Int)) = true) ∧ Hid (R wx)) (fun v7 _ => xs.length - (intOf v7).toNat)
    case atStart => exact ⟨0, Nat.zero_le _, rfl, rfl, HR0⟩
    case round =>
      clear HR0
      obtain ⟨k, hkn, rfl, HAll, HRr⟩ := hrel
      obtain ⟨Kr, hAr, hBr⟩ := HF.out wr ((HR.out _).1 HRr.out)
      have c0 := Kr.cell 0
      have c4 := Kr.cell 4
      simp at c0 c4
      have HBr := Lib.hid hBr
      clear hBr
      by_cases hlt : k < xs.length
      · obtain ⟨a, ha⟩ : ∃ a, xs[k]? = some a := ⟨_, List.getElem?_eq_getElem hlt⟩
        obtain ⟨b', o', t, hA', hSb, hC, hLa⟩ := hAr k a ha
        obtain ⟨At, ct, rfl, _, _⟩ := hLa.form_
        subst hA'
        obtain ⟨e0, e1, e2, e3, e4⟩ := hC
        have HNo : Hid (okA (4 : Int) a = false → x = false) := fun h => HXX.out.trans (all_no ha h)
        have HYes : Hid (okA (4 : Int) a = true → (xs.take (k + 1)).all (okA (4 : Int)) = true) := fun h => by rw [all_take _ ha, HAll.out, h]; rfl
        have CI := Lib.hid ((HIH.out a (List.mem_of_getElem? ha)).1 _ S wr hLa (HIH.out a (List.mem_of_getElem? ha)).2)
        have HRr2 : Hid (∀ w', Below wr.heap.size wr w' → R w' ∧ Below w.heap.size w w') := fun w' hb => by
          have h1 := (HR.out _).1 HRr.out
          have h3 := h1.trans (hb.mono h1.size)
          exact ⟨(HR.out _).2 h3, (HF.out _ h3).2.2⟩
        have hsg : ((4 : Int) < 5 ∨ (a.kind = 1 ∨ a.kind = 5 ∨ a.kind = 6)) ∨ (5 ≤ (4 : Int) ∧ a.kind ≠ 1 ∧ a.kind ≠ 5 ∧ a.kind ≠ 6) := by omega
        clear Kr hAr hLa ha HRr HAll
        rcases hsg with hsg | ⟨p1, p2, p3, p4⟩
        · have HFo : Hid (okA (4 : Int) a = form a) := by
            show _ = _
            unfold okA
            rcases hsg with h | h | h | h
            · rw [decide_eq_true h]; simp
            · have : single a = true := by unfold single; rw [decide_eq_true h]; rfl
              rw [this]; simp
            · have : single a = true := by unfold single; rw [decide_eq_true h]; simp
              rw [this]; simp
            · have : single a = true := by unfold single; rw [decide_eq_true h]; simp
              rw [this]; simp
          rw [HFo.out] at HNo HYes
          unfold rowD at CI
          have hsg' : ((4 : Int) < 5) ∨ (5 ≤ (4 : Int) ∧ a.kind = 1) ∨ (5 ≤ (4 : Int) ∧ a.kind = 5) ∨ (5 ≤ (4 : Int) ∧ a.kind = 6) := by omega
          clear hsg HFo
          generalize form a = fa at CI HNo HYes
          rcases hsg' with g | ⟨g, g'⟩ | ⟨g, g'⟩ | ⟨g, g'⟩
          all_goals try (exfalso; omega)
          · have g2 : ¬ (5 : Int) ≤ (4 : Int) := by omega
            cases fa with
            | false =>
              have HV : Hid (x = false) := HNo.out rfl
              clear HNo HYes
              go_wp2_with fail
              refine CI.out.mono ?_
              rintro e w3 ⟨rfl, hb3⟩
              have HB3 := Lib.hid (HRr2.out w3 hb3).2
              clear hb3 CI HRr2
              go_wp2_with fail
              go_ret
              exact ⟨by rw [HV.out]; rfl, HB3.out⟩
            | true =>
              have HV := Lib.hid (HYes.out rfl)
              clear HNo HYes
              go_wp2_with fail
              refine CI.out.mono ?_
              rintro e w3 ⟨rfl, hb3⟩
              have HR3 := Lib.hid (HRr2.out w3 hb3).1
              clear hb3 CI HRr2
              go_wp2_with fail
              go_roundw
              case rel => exact ⟨k + 1, by omega, by go_num, HV, HR3⟩
              case measure => simp [intOf]; omega
        · exfalso; omega
      · have HV : Hid (x = true) := by
          show x = _
          have h := HAll.out
          rw [List.take_of_length_le (by omega)] at h
          exact HXX.out.trans h
        clear Kr hAr HAll
        go_wp2_with fail
        go_ret
        exact ⟨by rw [HV.out]; rfl, HBr.out⟩
  · have t34 := hk6 rfl
    clear hk4 hk6
    go_enter Tryz.func186, Tryz.ntmps186
    go_wp2_with fail
    go_loopw [7] (fun v7 wx => ∃ (k : Nat), k ≤ xs.length ∧ v7 = .int .i64 (k : Int) ∧ Hid ((xs.take k).all (okA (6 : Int)) = true) ∧ Hid (R wx)) (fun v7 _ => xs.length - (intOf v7).toNat)
    case atStart => exact ⟨0, Nat.zero_le _, rfl, rfl, HR0⟩
    case round =>
      clear HR0
      obtain ⟨k, hkn, rfl, HAll, HRr⟩ := hrel
      obtain ⟨Kr, hAr, hBr⟩ := HF.out wr ((HR.out _).1 HRr.out)
      have c0 := Kr.cell 0
      have c4 := Kr.cell 4
      simp at c0 c4
      have HBr := Lib.hid hBr
      clear hBr
      by_cases hlt : k < xs.length
      · obtain ⟨a, ha⟩ : ∃ a, xs[k]? = some a := ⟨_, List.getElem?_eq_getElem hlt⟩
        obtain ⟨b', o', t, hA', hSb, hC, hLa⟩ := hAr k a ha
        obtain ⟨At, ct, rfl, _, _⟩ := hLa.form_
        subst hA'
        obtain ⟨e0, e1, e2, e3, e4⟩ := hC
        have HNo : Hid (okA (6 : Int) a = false → x = false) := fun h => HXX.out.trans (all_no ha h)
        have HYes : Hid (okA (6 : Int) a = true → (xs.take (k + 1)).all (okA (6 : Int)) = true) := fun h => by rw [all_take _ ha, HAll.out, h]; rfl
        have CI := Lib.hid ((HIH.out a (List.mem_of_getElem? ha)).1 _ S wr hLa (HIH.out a (List.mem_of_getElem? ha)).2)
        have HRr2 : Hid (∀ w', Below wr.heap.size wr w' → R w' ∧ Below w.heap.size w w') := fun w' hb => by
          have h1 := (HR.out _).1 HRr.out
          have h3 := h1.trans (hb.mono h1.size)
          exact ⟨(HR.out _).2 h3, (HF.out _ h3).2.2⟩
        have hsg : ((6 : Int) < 5 ∨ (a.kind = 1 ∨ a.kind = 5 ∨ a.kind = 6)) ∨ (5 ≤ (6 : Int) ∧ a.kind ≠ 1 ∧ a.kind ≠ 5 ∧ a.kind ≠ 6) := by omega
        clear Kr hAr hLa ha HRr HAll
        rcases hsg with hsg | ⟨p1, p2, p3, p4⟩
        · have HFo : Hid (okA (6 : Int) a = form a) := by
            show _ = _
            unfold okA
            rcases hsg with h | h | h | h
            · rw [decide_eq_true h]; simp
            · have : single a = true := by unfold single; rw [decide_eq_true h]; rfl
              rw [this]; simp
            · have : single a = true := by unfold single; rw [decide_eq_true h]; simp
              rw [this]; simp
            · have : single a = true := by unfold single; rw [decide_eq_true h]; simp
              rw [this]; simp
          rw [HFo.out] at HNo HYes
          unfold rowD at CI
          have hsg' : ((6 : Int) < 5) ∨ (5 ≤ (6 : Int) ∧ a.kind = 1) ∨ (5 ≤ (6 : Int) ∧ a.kind = 5) ∨ (5 ≤ (6 : Int) ∧ a.kind = 6) := by omega
          clear hsg HFo
          generalize form a = fa at CI HNo HYes
          rcases hsg' with g | ⟨g, g'⟩ | ⟨g, g'⟩ | ⟨g, g'⟩
          all_goals try (exfalso; omega)
          all_goals
            rw [g'] at CI e0
            cases fa with
            | false =>
              have HV : Hid (x = false) := HNo.out rfl
              clear HNo HYes
              go_wp2_with fail
              refine CI.out.mono ?_
              rintro e w3 ⟨rfl, hb3⟩
              have HB3 := Lib.hid (HRr2.out w3 hb3).2
              clear hb3 CI HRr2
              go_wp2_with fail
              go_ret
              exact ⟨by rw [HV.out]; rfl, HB3.out⟩
            | true =>
              have HV := Lib.hid (HYes.out rfl)
              clear HNo HYes
              go_wp2_with fail
              refine CI.out.mono ?_
              rintro e w3 ⟨rfl, hb3⟩
              have HR3 := Lib.hid (HRr2.out w3 hb3).1
              clear hb3 CI HRr2
              go_wp2_with fail
              go_roundw
              case rel => exact ⟨k + 1, by omega, by go_num, HV, HR3⟩
              case measure => simp [intOf]; omega
        · have HV : Hid (x = false) := HNo.out (by
            unfold okA single
            rw [decide_eq_false (show ¬ (6 : Int) < 5 by omega), decide_eq_false p2, decide_eq_false p3, decide_eq_false p4]
            rfl)
          have r2 : (a.kind != 1) = true := bne_iff_ne.2 p2
          have r3 : (a.kind != 5) = true := bne_iff_ne.2 p3
          have r4 : (a.kind != 6) = true := bne_iff_ne.2 p4
          clear HNo HYes CI HRr2 p2 p3 p4
          go_wp2_with fail
          go_ret
          exact ⟨by rw [HV.out]; rfl, HBr.out⟩
      · have HV : Hid (x = true) := by
          show x = _
          have h := HAll.out
          rw [List.take_of_length_le (by omega)] at h
          exact HXX.out.trans h
        clear Kr hAr HAll
        go_wp2_with fail
        go_ret
        exact ⟨by rw [HV.out]; rfl, HBr.out⟩
  · clear hk4 hk6
    go_enter Tryz.func186, Tryz.ntmps186
    go_wp2_with fail
    go_loopw [7] (fun v7 wx => ∃ (k : Nat), k ≤ xs.length ∧ v7 = .int .i64 (k : Int) ∧ Hid ((xs.take k).all (okA K) = true) ∧ Hid (R wx)) (fun v7 _ => xs.length - (intOf v7).toNat)
    case atStart => exact ⟨0, Nat.zero_le _, rfl, rfl, HR0⟩
    case round =>
      clear HR0
      obtain ⟨k, hkn, rfl, HAll, HRr⟩ := hrel
      obtain ⟨Kr, hAr, hBr⟩ := HF.out wr ((HR.out _).1 HRr.out)
      have c0 := Kr.cell 0
      have c4 := Kr.cell 4
      simp at c0 c4
      have HBr := Lib.hid hBr
      clear hBr
      by_cases hlt : k < xs.length
      · obtain ⟨a, ha⟩ : ∃ a, xs[k]? = some a := ⟨_, List.getElem?_eq_getElem hlt⟩
        obtain ⟨b', o', t, hA', hSb, hC, hLa⟩ := hAr k a ha
        obtain ⟨At, ct, rfl, _, _⟩ := hLa.form_
        subst hA'
        obtain ⟨e0, e1, e2, e3, e4⟩ := hC
        have HNo : Hid (okA K a = false → x = false) := fun h => HXX.out.trans (all_no ha h)
        have HYes : Hid (okA K a = true → (xs.take (k + 1)).all (okA K) = true) := fun h => by rw [all_take _ ha, HAll.out, h]; rfl
        have CI := Lib.hid ((HIH.out a (List.mem_of_getElem? ha)).1 _ S wr hLa (HIH.out a (List.mem_of_getElem? ha)).2)
        have HRr2 : Hid (∀ w', Below wr.heap.size wr w' → R w' ∧ Below w.heap.size w w') := fun w' hb => by
          have h1 := (HR.out _).1 HRr.out
          have h3 := h1.trans (hb.mono h1.size)
          exact ⟨(HR.out _).2 h3, (HF.out _ h3).2.2⟩
        have hsg : (K < 5 ∨ (a.kind = 1 ∨ a.kind = 5 ∨ a.kind = 6)) ∨ (5 ≤ K ∧ a.kind ≠ 1 ∧ a.kind ≠ 5 ∧ a.kind ≠ 6) := by omega
        clear Kr hAr hLa ha HRr HAll
        rcases hsg with hsg | ⟨p1, p2, p3, p4⟩
        · have HFo : Hid (okA K a = form a) := by
            show _ = _
            unfold okA
            rcases hsg with h | h | h | h
            · rw [decide_eq_true h]; simp
            · have : single a = true := by unfold single; rw [decide_eq_true h]; rfl
              rw [this]; simp
            · have : single a = true := by unfold single; rw [decide_eq_true h]; simp
              rw [this]; simp
            · have : single a = true := by unfold single; rw [decide_eq_true h]; simp
              rw [this]; simp
          rw [HFo.out] at HNo HYes
          unfold rowD at CI
          have hsg' : (K < 5) ∨ (5 ≤ K ∧ a.kind = 1) ∨ (5 ≤ K ∧ a.kind = 5) ∨ (5 ≤ K ∧ a.kind = 6) := by omega
          clear hsg HFo
          generalize form a = fa at CI HNo HYes
          rcases hsg' with g | ⟨g, g'⟩ | ⟨g, g'⟩ | ⟨g, g'⟩
          · have g2 : ¬ (5 : Int) ≤ K := by omega
            cases fa with
            | false =>
              have HV : Hid (x = false) := HNo.out rfl
              clear HNo HYes
              go_wp2_with fail
              refine CI.out.mono ?_
              rintro e w3 ⟨rfl, hb3⟩
              have HB3 := Lib.hid (HRr2.out w3 hb3).2
              clear hb3 CI HRr2
              go_wp2_with fail
              go_ret
              exact ⟨by rw [HV.out]; rfl, HB3.out⟩
            | true =>
              have HV := Lib.hid (HYes.out rfl)
              clear HNo HYes
              go_wp2_with fail
              refine CI.out.mono ?_
              rintro e w3 ⟨rfl, hb3⟩
              have HR3 := Lib.hid (HRr2.out w3 hb3).1
              clear hb3 CI HRr2
              go_wp2_with fail
              go_roundw
              case rel => exact ⟨k + 1, by omega, by go_num, HV, HR3⟩
              case measure => simp [intOf]; omega
          all_goals
            rw [g'] at CI e0
            cases fa with
            | false =>
              have HV : Hid (x = false) := HNo.out rfl
              clear HNo HYes
              go_wp2_with fail
              refine CI.out.mono ?_
              rintro e w3 ⟨rfl, hb3⟩
              have HB3 := Lib.hid (HRr2.out w3 hb3).2
              clear hb3 CI HRr2
              go_wp2_with fail
              go_ret
              exact ⟨by rw [HV.out]; rfl, HB3.out⟩
            | true =>
              have HV := Lib.hid (HYes.out rfl)
              clear HNo HYes
              go_wp2_with fail
              refine CI.out.mono ?_
              rintro e w3 ⟨rfl, hb3⟩
              have HR3 := Lib.hid (HRr2.out w3 hb3).1
              clear hb3 CI HRr2
              go_wp2_with fail
              go_roundw
              case rel => exact ⟨k + 1, by omega, by go_num, HV, HR3⟩
              case measure => simp [intOf]; omega
        · have HV : Hid (x = false) := HNo.out (by
            unfold okA single
            rw [decide_eq_false (show ¬ K < 5 by omega), decide_eq_false p2, decide_eq_false p3, decide_eq_false p4]
            rfl)
          have r2 : (a.kind != 1) = true := bne_iff_ne.2 p2
          have r3 : (a.kind != 5) = true := bne_iff_ne.2 p3
          have r4 : (a.kind != 6) = true := bne_iff_ne.2 p4
          clear HNo HYes CI HRr2 p2 p3 p4
          go_wp2_with fail
          go_ret
          exact ⟨by rw [HV.out]; rfl, HBr.out⟩
      · have HV : Hid (x = true) := by
          show x = _
          have h := HAll.out
          rw [List.take_of_length_le (by omega)] at h
          exact HXX.out.trans h
        clear Kr hAr HAll
        go_wp2_with fail
        go_ret
        exact ⟨by rw [HV.out]; rfl, HBr.out⟩
end Go.Proofs.YtpmfmkpfjomgnaaGreatDoor
namespace Go.Proofs.YtpmfmkpfjomgnaaGreatDoor
set_option linter.unusedSimpArgs false
set_option linter.unusedVariables false
open Go.RowKit

theorem refForm_any (d : Dep) : FormOk d := by
  induction d using Dep.ind with
  | h k n o e xs ih =>
    by_cases hk : k = 1
    · subst hk; exact refForm_leaf n o e xs
    · exact refForm_node k n o e xs hk ih
set_option maxHeartbeats 1000000 in
set_option maxRecDepth 100000 in
theorem refCheckD_any (d : Dep) (s : Value) (S : Nat → Prop) (w : World) (hL : Lay w S d s) (hsm : small d) (hN : nodes d ≤ 4194304) : Calls Tryz.prog 138 #[.agg (rowD d s)] w fun e w' => e = .returned (.int .i64 (checkN d)) ∧ Below w.heap.size w w' := by
  obtain ⟨A, c, rfl, _, _⟩ := hL.form_
  obtain ⟨w1, hw1⟩ : ∃ w1, w1 = w.alloc (.cells (rowD d (.slice A d.args.length c)) 50) := ⟨_, rfl⟩
  have hB1 : Below w.heap.size w w1 := by rw [hw1]; exact (Below.refl _ _).alloc (Nat.le_refl _) _
  have K : Blk w1 w.heap.size 50 (rowD d (.slice A d.args.length c)) := by rw [hw1]; exact Blk.new _ _ _
  have hz : w1.heap.size = w.heap.size + 1 := by rw [hw1]; simp
  have hL1 := hL.stay (fun _ h => h) (StayS.below' hB1)
  have CF := Lib.hid (refForm_any d _ S w1 hL1 hsm)
  have CP : Hid (∀ w2, Below w1.heap.size w1 w2 → Blk w2 w.heap.size 50 (rowD d (.slice A d.args.length c)) ∧ Below w.heap.size w w2 ∧ Calls Tryz.prog 187 #[.agg (rowD d (.slice A d.args.length c))] w2 (fun e w' => e = .returned (.int .i64 (leaves d : Int)) ∧ Below w2.heap.size w2 w')) := fun w2 hb => ⟨K.below hb (by omega), hB1.trans (hb.mono (by omega)), refParts_any d _ S w2 (hL1.stay (fun _ h => h) (StayS.below' hb)) hN⟩
  obtain ⟨x, hx⟩ : ∃ x, Hid (x = form d) := ⟨_, rfl⟩
  rw [← hx.out] at CF
  obtain ⟨q, hq⟩ : ∃ q, Hid (q = checkN d) := ⟨_, rfl⟩
  rw [← hq.out]
  have HQ : Hid (q = if x = true then (if 16 < leaves d then 51 else 0) else 50) := by show _ = _; rw [hq.out, hx.out]; rfl
  have hlv : leaves d ≤ 4194304 := by have := leaves_nodes d; omega
  clear hL hsm hN hB1 K hz hL1 hx hq
  subst hw1
  unfold rowD at CF CP ⊢
  go_enter Tryz.func138, Tryz.ntmps138
  go_wp2_with fail
  refine CF.out.mono ?_
  rintro e w2 ⟨rfl, hb2⟩
  obtain ⟨K2, hB2, C2⟩ := CP.out w2 hb2
  have k0 := K2.cell 0
  have k1 := K2.cell 1
  have k2 := K2.cell 2
  have k3 := K2.cell 3
  have k4 := K2.cell 4
  simp at k0 k1 k2 k3 k4
  have HC2 := Lib.hid C2
  have HB2 := Lib.hid hB2
  clear K2 hB2 C2 hb2 CF CP
  cases x with
  | false =>
    have HV : Hid (q = 50) := HQ.out
    clear HQ HC2
    go_wp2_with fail
    go_ret
    exact ⟨by rw [HV.out]; rfl, HB2.out⟩
  | true =>
    have HQ2 : Hid (q = if 16 < leaves d then 51 else 0) := HQ.out
    clear HQ
    generalize leaves d = m at *
    go_wp2_with fail
    refine HC2.out.mono ?_
    rintro e w3 ⟨rfl, hb3⟩
    have HB3 : Hid (Below w.heap.size w w3) := HB2.out.trans (hb3.mono HB2.out.size)
    clear hb3 HC2 HB2
    by_cases hm : 16 < m
    · have HV : Hid (q = 51) := HQ2.out.trans (if_pos hm)
      have t : (16 : Int) < (m : Int) := by omega
      clear HQ2
      go_wp2_with fail
      go_ret
      exact ⟨by rw [HV.out]; rfl, HB3.out⟩
    · have HV : Hid (q = 0) := HQ2.out.trans (if_neg hm)
      have t : ¬ (16 : Int) < (m : Int) := by omega
      clear HQ2
      go_wp2_with fail
      go_ret
      exact ⟨by rw [HV.out]; rfl, HB3.out⟩

end Go.Proofs.YtpmfmkpfjomgnaaGreatDoor
