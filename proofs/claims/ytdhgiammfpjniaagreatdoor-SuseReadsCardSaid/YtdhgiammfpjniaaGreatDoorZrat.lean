/- Parts of the proof. -/
import Derived.Test.YtdhgiammfpjniaaGreatDoorZran
import Derived.Test.YtdhgiammfpjniaaGreatDoorZrab
namespace Go.Proofs.YtdhgiammfpjniaaGreatDoor.Ev
set_option linter.unusedSimpArgs false
set_option linter.unusedVariables false
open Go.RowKit
def jump2 (A B : Act → World → Prop) (Q : Exit → Act → World → Prop) : Exit → Act → World → Prop
 | .goto l, a, w => (l = 0 ∧ A a w) ∨ (l = 1 ∧ B a w)
 | e, a, w => Q e a w
theorem ajQ1 {P : Program} {a : Act} {w : World} {Q : Exit → Act → World → Prop} {c restA restB : Code} (hA : findLabel c 0 = some restA) (hB : findLabel c 1 = some restB) (JA JB : Nat → Act → World → Prop)
 (ahead : ∀ n a w, JA n a w → restA.wp P (jump2 (fun a' w' => ∃ m, m < n ∧ JA m a' w') (fun a' w' => ∃ m, m < n ∧ JB m a' w') Q) a w)
 (behind : ∀ n a w, JB n a w → restB.wp P (jump2 (fun a' w' => ∃ m, m < n ∧ JA m a' w') (fun a' w' => ∃ m, m < n ∧ JB m a' w') Q) a w)
 (first : c.wp P (jump2 (fun a' w' => ∃ m, JA m a' w') (fun a' w' => ∃ m, JB m a' w') Q) a w) : (Code.scope c).wp P Q a w := by
 intro b k cs
 have hgA : gotoIn 0 (.inScope c :: k) = some (.code restA :: .inScope c :: k) := by simp [gotoIn, hA]
 have hgB : gotoIn 1 (.inScope c :: k) = some (.code restB :: .inScope c :: k) := by simp [gotoIn, hB]
 have key : ∀ n, (∀ a w, JA n a w → ∃ e a' w', Q e a' w' ∧ Arrives P (lone (b.at a (.code restA :: .inScope c :: k)) cs w) b k cs e a' w') ∧
  (∀ a w, JB n a w → ∃ e a' w', Q e a' w' ∧ Arrives P (lone (b.at a (.code restB :: .inScope c :: k)) cs w) b k cs e a' w') := by
  intro n
  induction n using Nat.strongRecOn with
  | _ n ih =>
    have one : ∀ (rest : Code) a w, rest.wp P (jump2 (fun a' w' => ∃ m, m < n ∧ JA m a' w') (fun a' w' => ∃ m, m < n ∧ JB m a' w') Q) a w →
     ∃ e a' w', Q e a' w' ∧ Arrives P (lone (b.at a (.code rest :: .inScope c :: k)) cs w) b k cs e a' w' := by
     intro rest a w hw
     obtain ⟨e, a₁, w₁, hq, harr⟩ := hw b (.inScope c :: k) cs
     cases e with
     | normal => exact ⟨.normal, a₁, w₁, hq, Steps.trans harr (.one step_inScope)⟩
     | exit id => exact ⟨.exit id, a₁, w₁, hq, fun k' hk => harr k' (by simp [exitTo, hk])⟩
     | goto l' =>
       rcases hq with ⟨rfl, m, hm, hJ⟩ | ⟨rfl, m, hm, hJ⟩
       ·obtain ⟨e₂, a₂, w₂, hq₂, harr₂⟩ := (ih m hm).1 a₁ w₁ hJ
        exact ⟨e₂, a₂, w₂, hq₂, .of_steps (harr _ hgA) harr₂⟩
       ·obtain ⟨e₂, a₂, w₂, hq₂, harr₂⟩ := (ih m hm).2 a₁ w₁ hJ
        exact ⟨e₂, a₂, w₂, hq₂, .of_steps (harr _ hgB) harr₂⟩
     | ret => exact ⟨_, a₁, w₁, hq, harr⟩
     | panic ch => exact ⟨_, a₁, w₁, hq, harr⟩
     | outgrown => exact ⟨_, a₁, w₁, hq, harr⟩
    exact ⟨fun a w h => one restA a w (ahead n a w h), fun a w h => one restB a w (behind n a w h)⟩
 obtain ⟨e, a₁, w₁, hq, harr⟩ := first b (.inScope c :: k) cs
 cases e with
 | normal => exact ⟨.normal, a₁, w₁, hq, .head step_scope (Steps.trans harr (.one step_inScope))⟩
 | exit id => exact ⟨.exit id, a₁, w₁, hq, fun k' hk => .head step_scope (harr k' (by simp [exitTo, hk]))⟩
 | goto l' =>
   rcases hq with ⟨rfl, m, hJ⟩ | ⟨rfl, m, hJ⟩
   ·obtain ⟨e₂, a₂, w₂, hq₂, harr₂⟩ := (key m).1 a₁ w₁ hJ
    exact ⟨e₂, a₂, w₂, hq₂, .of_steps (.head step_scope (harr _ hgA)) harr₂⟩
   ·obtain ⟨e₂, a₂, w₂, hq₂, harr₂⟩ := (key m).2 a₁ w₁ hJ
    exact ⟨e₂, a₂, w₂, hq₂, .of_steps (.head step_scope (harr _ hgB)) harr₂⟩
 | ret => exact ⟨_, a₁, w₁, hq, .of_steps (.one step_scope) harr⟩
 | panic ch => exact ⟨_, a₁, w₁, hq, .of_steps (.one step_scope) harr⟩
 | outgrown => exact ⟨_, a₁, w₁, hq, .of_steps (.one step_scope) harr⟩
structure OItem where
 k : Int
 r : Rows5
 s : Value
def adQr (it : OItem) : Dep × Value := (node it.k [], it.s)
def stkOf (L : List OItem) : Stk := (L.map fun it => (it.k, it.r.map Prod.fst)).reverse
theorem afQo (L : List OItem) (it : OItem) : stkOf (L ++ [it]) = (it.k, it.r.map Prod.fst) :: stkOf L := by simp [stkOf]
def muts (v : Value) (L : List OItem) : List (Option Nat) := v.ownBlock :: L.map fun it => it.s.ownBlock
def openM : List OItem → Nat
 | [] => 0
 | it :: r => 1 + aaQk (it.r.map Prod.fst) + openM r
theorem aeQh (L : List OItem) (it : OItem) : openM (L ++ [it]) = openM L + (1 + aaQk (it.r.map Prod.fst)) := by
 induction L with
 | nil => simp [openM]
 | cons x r ih => simp only [List.cons_append, openM, ih]; omega
structure RSt (w0 w : World) (S : Nat → Prop) (v : Value) (L : List OItem) (drow : Array Value) : Prop where
 own : w.ownsRow (w0.heap.size + 1 + 1) 39 5 v L.length (cells5 (L.map adQr))
 args : ∀ it ∈ L, w.ownsRow (w0.heap.size + 1 + 1) 39 5 it.s it.r.length (cells5 it.r) ∧ ∀ x ∈ it.r, Lay w S x.1 x.2
 nodup : ((muts v L).filterMap id).Nodup
 notS : ∀ k ∈ (muts v L).filterMap id, ¬ S k
 base : ∀ b, S b → w0.heap.size + 1 + 1 ≤ b
 clean : CleanS w S
 res : Blk w w0.heap.size 39 #[.int .i64 0, .string ⟨#[]⟩, .int .i64 0, .string ⟨#[]⟩, .slice none 0 0]
 dblk : Blk w (w0.heap.size + 1) 39 drow
 below : Below w0.heap.size w0 w
 tabs : Tabs w
 two : 4 ≤ w0.heap.size
section
variable {w0 w w' : World} {S : Nat → Prop} {v v' : Value} {L : List OItem} {drow : Array Value}
theorem RSt.open_ (h : RSt w0 w S v L drow) {k : Nat} (hk : v.ownBlock = some k) : ¬ S k ∧ k < w.heap.size ∧ w0.heap.size + 1 + 1 ≤ k := by
 refine ⟨h.notS k ?_, adQx h.own hk, (h.own.lt k hk).1⟩
 simp [muts, List.filterMap_cons, hk]
theorem RSt.item (h : RSt w0 w S v L drow) {it : OItem} (hi : it ∈ L) {k : Nat} (hk : it.s.ownBlock = some k) : ¬ S k ∧ k < w.heap.size ∧ w0.heap.size + 1 + 1 ≤ k ∧ v.ownBlock ≠ some k := by
 have hm : k ∈ (L.map fun it => it.s.ownBlock).filterMap id := List.mem_filterMap.2 ⟨some k, List.mem_map.2 ⟨it, hi, hk⟩, rfl⟩
 refine ⟨h.notS k ?_, adQx (h.args it hi).1 hk, ((h.args it hi).1.lt k hk).1, fun hv => ?_⟩
 ·unfold muts
  rw [List.filterMap_cons]
  split
  ·exact hm
  ·exact List.mem_cons_of_mem _ hm
 ·have := h.nodup
  unfold muts at this
  rw [List.filterMap_cons, hv] at this
  exact (List.nodup_cons.1 this).1 hm
theorem RSt.world (h : RSt w0 w S v L drow) {G : List Nat} (ht : Turned G w w') (hm : ∀ k ∈ G, w0.heap.size + 1 + 1 ≤ k ∧ k ∉ (muts v L).filterMap id ∧ ¬ S k) : RSt w0 w' S v L drow := by
 have hst : StayS S w w' := StayS.turned ht fun b hb hg => (hm b hg).2.2 hb
 have hmem : ∀ k, v.ownBlock = some k → k ∈ (muts v L).filterMap id := fun k hk => by simp [muts, List.filterMap_cons, hk]
 have hmem2 : ∀ it ∈ L, ∀ k, it.s.ownBlock = some k → k ∈ (muts v L).filterMap id := fun it hi k hk => List.mem_filterMap.2 ⟨some k, by simp [muts]; exact .inr ⟨it, hi, hk⟩, rfl⟩
 refine ⟨aaQf h.own ht (fun k hk hg => (hm k hg).2.1 (hmem k hk)), fun it hi => ⟨aaQf (h.args it hi).1 ht (fun k hk hg => (hm k hg).2.1 (hmem2 it hi k hk)), fun x hx => ((h.args it hi).2 x hx).stay (fun _ h => h) hst⟩, h.nodup, h.notS, h.base, h.clean.stay hst, h.res.turned ht (fun hg => by have := (hm _ hg).1; omega), h.dblk.turned ht (fun hg => by have := (hm _ hg).1; omega), ?_, h.tabs.turned ht (fun k hk => by have := h.two; have := h.below.size; have := (hm k hk).1; omega), h.two⟩
 exact h.below.trans (ht.below (fun k hk => (by have := (hm k hk).1; omega)) h.below.size)
theorem RSt.below_ (h : RSt w0 w S v L drow) (hb : Below w.heap.size w w') : RSt w0 w' S v L drow := h.world (Turned.of_below hb []) (fun k hk => by cases hk)
theorem own_blk {base n c g size : Nat} {e : TypeId} {xs : List Value} (h : w.ownsRow base e size (.slice (some ⟨g, 0, none⟩) n c) n xs) : ∃ cur, Blk w g e cur ∧ base ≤ g ∧ n ≤ c ∧ c ≤ maxLen ∧ cur.size = c * size ∧ cur.toList.take (n * size) = xs := by
 rcases h.2 with ⟨h1, _⟩ | ⟨g', cap, cur, h1, h2, h3, h4, h5, h6, h7⟩
 ·cases h1
 ·injection h1 with e1 e2 e3
  injection e1 with e1
  injection e1 with e1
  subst e1; subst e3
  exact ⟨cur, h3, h2, h4, h5, h6, h7⟩
theorem anQm {base n c g size : Nat} {e : TypeId} {xs : List Value} {cur : Array Value} (h : Blk w g e cur) (hb : base ≤ g) (hn : n ≤ c) (hc : c ≤ maxLen) (hz : cur.size = c * size) (ht : cur.toList.take (n * size) = xs) : w.ownsRow base e size (.slice (some ⟨g, 0, none⟩) n c) n xs := by
 refine ⟨?_, .inr ⟨g, c, cur, rfl, hb, h, hn, hc, hz, ht⟩⟩
 rw [← ht, List.length_take, Array.length_toList, hz, Nat.min_eq_left (Nat.mul_le_mul_right _ hn)]
theorem agQx (cur : Array Value) (i n : Nat) (u : Value) : (cur.setIfInBounds i u).toList.take n = (cur.toList.take n).set i u := by
 rw [Array.toList_setIfInBounds, List.take_set]
theorem adQm {α : Type} (a b : List α) (j : Nat) (u : α) {i : Nat} (h : i = a.length + j) : (a ++ b).set i u = a ++ b.set j u := by
 subst h
 rw [List.set_append_right _ _ (by omega)]
 congr 2
 omega
theorem RSt.setD (h : RSt w0 w S v L drow) (i : Nat) (u : Value) : RSt w0 (w.setCell ⟨w0.heap.size + 1, i, none⟩ u) S v L (drow.setIfInBounds i u) := by
 have ht : Turned [w0.heap.size + 1] w (w.setCell ⟨w0.heap.size + 1, i, none⟩ u) := (Turned.refl _ _).setCell (.inl (by simp)) _
 have hst : StayS S w (w.setCell ⟨w0.heap.size + 1, i, none⟩ u) := StayS.turned ht fun b hb hg => by
  have := h.base b hb
  simp at hg; omega
 refine ⟨aaQf h.own ht (fun k hk hg => ?_), fun it hi => ⟨aaQf (h.args it hi).1 ht (fun k hk hg => ?_), fun x hx => ((h.args it hi).2 x hx).stay (fun _ h => h) hst⟩, h.nodup, h.notS, h.base, h.clean.stay hst, h.res.turned ht (by simp), h.dblk.set_ i u, ?_, h.tabs.turned ht (fun k hk => ?_), h.two⟩
 ·have := (h.open_ hk).2.2; simp at hg; omega
 ·have := (h.item hi hk).2.2.1; simp at hg; omega
 ·exact h.below.setCell (by simp) _
 ·have := h.two; simp at hk; omega
theorem RSt.push {w1 : World} (h : RSt w0 w S v L drow) (hown : w1.ownsRow (w0.heap.size + 1 + 1) 39 5 v' (L.length + 1) (cells5 (L.map adQr) ++ [.int .i64 0, .string ⟨#[]⟩, .int .i64 0, .string ⟨#[]⟩, .slice none 0 0]))
 (hg : w.grownBy w1 v.ownBlock) (hat : v'.ownBlock = v.ownBlock ∨ v'.ownBlock = some w.heap.size) : RSt w0 w1 S v' (L ++ [⟨0, [], .slice none 0 0⟩]) drow := by
 have hG : ∀ k, k ∈ v.ownBlock.toList → v.ownBlock = some k := fun k hk => by simpa using hk
 have ht : Turned v.ownBlock.toList w w1 := (Turned.refl _ w).grown hg fun k hk => .inl (by simp [hk])
 have hst : StayS S w w1 := StayS.turned ht fun b hb hg => (h.open_ (hG b hg)).1 hb
 have hlt : ∀ it ∈ L, ∀ k, it.s.ownBlock = some k → k < w.heap.size := fun it hi k hk => (h.item hi hk).2.1
 have hmuts : (muts v' (L ++ [⟨0, [], .slice none 0 0⟩])).filterMap id = (muts v' L).filterMap id := by
  unfold muts
  rw [List.map_append, ← List.cons_append, List.filterMap_append]
  simp [Value.ownBlock]
 have hnew : ∀ k, k ∈ (muts v' L).filterMap id → k ∈ (muts v L).filterMap id ∨ k = w.heap.size := fun k hk => by
  unfold muts at hk ⊢
  rw [List.mem_filterMap] at hk
  obtain ⟨o, ho, he⟩ := hk
  rcases List.mem_cons.1 ho with rfl | ho
  ·rcases hat with h1 | h1
   ·left; rw [List.mem_filterMap]; exact ⟨v.ownBlock, by simp, by rw [← h1]; exact he⟩
   ·right; rw [h1] at he; simpa using he.symm
  ·left; rw [List.mem_filterMap]; exact ⟨o, by simp [ho], he⟩
 refine ⟨by rw [List.map_append, cells5_append, List.length_append]; exact hown, fun it hi => ?_, ?_, fun k hk => ?_, h.base, h.clean.stay hst, h.res.turned ht (fun hg => ?_), h.dblk.turned ht (fun hg => ?_), ?_, h.tabs.turned ht (fun k hk => ?_), h.two⟩
 ·rcases List.mem_append.1 hi with hi | hi
  ·exact ⟨aaQf (h.args it hi).1 ht (fun k hk hg => (h.item hi hk).2.2.2 (hG k hg)), fun x hx => ((h.args it hi).2 x hx).stay (fun _ h => h) hst⟩
  ·have : it = ⟨0, [], .slice none 0 0⟩ := by simpa using hi
   subst this
   exact ⟨⟨rfl, .inl ⟨rfl, rfl⟩⟩, fun x hx => by cases hx⟩
 ·rw [hmuts]
  rcases hat with h1 | h1
  ·have e : muts v' L = muts v L := by unfold muts; rw [h1]
   rw [e]; exact h.nodup
  ·unfold muts
   rw [h1]
   have hn := h.nodup
   unfold muts at hn
   simp only [List.filterMap_cons, id_eq]
   refine List.nodup_cons.2 ⟨fun hm => ?_, ?_⟩
   ·obtain ⟨o, ho, he⟩ := List.mem_filterMap.1 hm
    obtain ⟨it, hi, rfl⟩ := List.mem_map.1 ho
    have := hlt it hi _ he
    omega
   ·rw [List.filterMap_cons] at hn
    split at hn
    ·exact hn
    ·exact (List.nodup_cons.1 hn).2
 ·rw [hmuts] at hk
  rcases hnew k hk with h1 | rfl
  ·exact h.notS k h1
  ·intro hs
   obtain ⟨cs, hc⟩ := h.clean _ hs
   have := hc.lt; omega
 ·have := (h.open_ (hG _ hg)).2.2; omega
 ·have := (h.open_ (hG _ hg)).2.2; omega
 ·exact h.below.trans (ht.below (fun k hk => by have := (h.open_ (hG k hk)).2.2; omega) h.below.size)
 ·have := (h.open_ (hG k hk)).2.2; have := h.two; omega
theorem RSt.pop {it : OItem} {ob n c : Nat} (h : RSt w0 w S (.slice (some ⟨ob, 0, none⟩) (L.length + 1) c) (L ++ [it]) drow) :
 RSt w0 w (fun b => S b ∨ it.s.ownBlock = some b) (.slice (some ⟨ob, 0, none⟩) L.length c) L drow ∧ Lay w (fun b => S b ∨ it.s.ownBlock = some b) (node it.k (it.r.map Prod.fst)) it.s := by
 have hit : it ∈ L ++ [it] := by simp
 have hown := h.own
 rw [List.map_append, cells5_append, show (L ++ [it]).length = L.length + 1 by simp] at hown
 have hsub : ∀ k, k ∈ (muts (.slice (some ⟨ob, 0, none⟩) L.length c) L).filterMap id → k ∈ (muts (.slice (some ⟨ob, 0, none⟩) (L.length + 1) c) (L ++ [it])).filterMap id := fun k hk => by
  unfold muts at hk ⊢
  rw [List.map_append, ← List.cons_append, List.filterMap_append]
  exact List.mem_append_left _ hk
 have hnd := h.nodup
 have hsplit : (muts (.slice (some ⟨ob, 0, none⟩) (L.length + 1) c) (L ++ [it])).filterMap id = (muts (.slice (some ⟨ob, 0, none⟩) L.length c) L).filterMap id ++ [it.s.ownBlock].filterMap id := by
  unfold muts
  rw [List.map_append, ← List.cons_append, List.filterMap_append]
  rfl
 rw [hsplit] at hnd
 have hnd' := List.nodup_append.1 hnd
 refine ⟨⟨aqQ0 hown rfl, fun x hx => ⟨(h.args x (by simp [hx])).1, fun y hy => ((h.args x (by simp [hx])).2 y hy).stay (fun _ h => .inl h) (StayS.refl _ _)⟩, hnd'.1, fun k hk => ?_, fun b hb => ?_, fun b hb => ?_, h.res, h.dblk, h.below, h.tabs, h.two⟩, ?_⟩
 ·rintro (h1 | h1)
  ·exact h.notS k (hsub k hk) h1
  ·exact hnd'.2.2 k hk k (by simp [h1]) rfl
 ·rcases hb with h1 | h1
  ·exact h.base b h1
  ·exact (h.item hit h1).2.2.1
 ·rcases hb with h1 | h1
  ·exact h.clean b h1
  ·rcases (h.args it hit).1.2 with ⟨h2, _⟩ | ⟨g, cap, cur, h2, _, h3, _⟩
   ·rw [h2] at h1; cases h1
   ·rw [h2] at h1
    have : g = b := by simpa [Value.ownBlock] using h1
    subst this
    exact ⟨cur, h3⟩
 ·rw [lay_iff]
  have ha := h.args it hit
  have hr : it.r.length = (it.r.map Prod.fst).length := by simp
  obtain ⟨A, cc, hs, h1, h2⟩ := aaQc ha.1
  rw [hs]
  refine ⟨A, cc, by rw [hr]; rfl, by simpa [node, Dep.args] using h1, ⟨h2, fun e => ?_⟩, fun j a hj => ?_⟩
  ·subst e
   rcases ha.1.2 with ⟨h3, _⟩ | ⟨g, cap, cur, h3, _⟩
   ·rw [hs] at h3; injection h3
   ·rw [hs] at h3; cases h3
  ·have hj' : (it.r.map Prod.fst)[j]? = some a := hj
   rw [List.getElem?_map, Option.map_eq_some_iff] at hj'
   obtain ⟨x, hx, rfl⟩ := hj'
   obtain ⟨q0, q1, q2, q3, q4⟩ := cells5_at hx
   have ho := ha.1
   rw [hs] at ho
   obtain ⟨b, rfl, k0⟩ := abQl ho q0
   obtain ⟨_, e1, k1⟩ := abQl ho q1
   obtain ⟨_, e2, k2⟩ := abQl ho q2
   obtain ⟨_, e3, k3⟩ := abQl ho q3
   obtain ⟨_, e4, k4⟩ := abQl ho q4
   injection e1 with e1; injection e1 with e1; subst e1
   injection e2 with e2; injection e2 with e2; subst e2
   injection e3 with e3; injection e3 with e3; subst e3
   injection e4 with e4; injection e4 with e4; subst e4
   exact ⟨b, 0, x.2, rfl, .inr rfl, ⟨by simpa using k0, by simpa using k1, by simpa using k2, by simpa using k3, by simpa using k4⟩, (ha.2 x (List.mem_of_getElem? hx)).stay (fun _ h => .inl h) (StayS.refl _ _)⟩
theorem own_set {base n c g size i : Nat} {e : TypeId} {xs : List Value} {u : Value} (h : w.ownsRow base e size (.slice (some ⟨g, 0, none⟩) n c) n xs) : (w.setCell ⟨g, i, none⟩ u).ownsRow base e size (.slice (some ⟨g, 0, none⟩) n c) n (xs.set i u) := by
 obtain ⟨cur, h1, h2, h3, h4, h5, h6⟩ := own_blk h
 exact anQm (h1.set_ i u) h2 h3 h4 (by simpa using h5) (by rw [agQx, h6])
theorem adQv (L : List OItem) (it : OItem) : cells5 ((L ++ [it]).map adQr) = cells5 (L.map adQr) ++ [.int .i64 it.k, .string ⟨#[]⟩, .int .i64 0, .string ⟨#[]⟩, it.s] := by
 rw [List.map_append, cells5_append]; rfl
theorem RSt.setK {it : OItem} {ob c : Nat} (h : RSt w0 w S (.slice (some ⟨ob, 0, none⟩) (L.length + 1) c) (L ++ [it]) drow) (k' : Int) :
 RSt w0 (w.setCell ⟨ob, L.length * 5, none⟩ (.int .i64 k')) S (.slice (some ⟨ob, 0, none⟩) (L.length + 1) c) (L ++ [⟨k', it.r, it.s⟩]) drow := by
 have ht : Turned [ob] w (w.setCell ⟨ob, L.length * 5, none⟩ (.int .i64 k')) := (Turned.refl _ _).setCell (.inl (by simp)) _
 have ho := h.open_ (k := ob) rfl
 have hst : StayS S w (w.setCell ⟨ob, L.length * 5, none⟩ (.int .i64 k')) := StayS.turned ht fun b hb hg => ho.1 (by simp at hg; rw [← hg]; exact hb)
 have hown := h.own
 rw [show (L ++ [it]).length = L.length + 1 by simp, adQv] at hown
 have hm : muts (.slice (some ⟨ob, 0, none⟩) (L.length + 1) c) (L ++ [⟨k', it.r, it.s⟩]) = muts (.slice (some ⟨ob, 0, none⟩) (L.length + 1) c) (L ++ [it]) := by simp [muts]
 have key : ∀ x ∈ L ++ [it], (w.setCell ⟨ob, L.length * 5, none⟩ (.int .i64 k')).ownsRow (w0.heap.size + 1 + 1) 39 5 x.s x.r.length (cells5 x.r) ∧ ∀ y ∈ x.r, Lay (w.setCell ⟨ob, L.length * 5, none⟩ (.int .i64 k')) S y.1 y.2 := fun x hx =>
  ⟨aaQf (h.args x hx).1 ht (fun k hk hg => (h.item hx hk).2.2.2 (by simp at hg; rw [hg]; rfl)), fun y hy => ((h.args x hx).2 y hy).stay (fun _ h => h) hst⟩
 refine ⟨?_, fun x hx => ?_, hm ▸ h.nodup, hm ▸ h.notS, h.base, h.clean.stay hst, h.res.turned ht (fun hg => ?_), h.dblk.turned ht (fun hg => ?_), ?_, h.tabs.turned ht (fun k hk => ?_), h.two⟩
 ·rw [show (L ++ [(⟨k', it.r, it.s⟩ : OItem)]).length = L.length + 1 by simp, adQv]
  have := own_set (i := L.length * 5) (u := .int .i64 k') hown
  rw [adQm (i := L.length * 5) _ _ 0 _ (by rw [cells5_len]; simp)] at this
  exact this
 ·rcases List.mem_append.1 hx with hx | hx
  ·exact key x (by simp [hx])
  ·have : x = ⟨k', it.r, it.s⟩ := by simpa using hx
   subst this
   exact key it (by simp)
 ·have := ho.2.2; simp at hg; omega
 ·have := ho.2.2; simp at hg; omega
 ·exact h.below.setCell (by have := ho.2.2; show _ ≤ ob; omega) _
 ·have := ho.2.2; have := h.two; simp at hk; omega
theorem RSt.put {it : OItem} {ob c g c' : Nat} {d : Dep} {t : Value} {w4 : World} {cg co : Array Value} (h : RSt w0 w S (.slice (some ⟨ob, 0, none⟩) (L.length + 1) c) (L ++ [it]) drow) (hL : Lay w S d t)
 (hown : w4.ownsRow (w0.heap.size + 1 + 1) 39 5 (.slice (some ⟨g, 0, none⟩) (it.r.length + 1) c') (it.r.length + 1) (cells5 it.r ++ [.int .i64 0, .string ⟨#[]⟩, .int .i64 0, .string ⟨#[]⟩, .slice none 0 0]))
 (hg : w.grownBy w4 it.s.ownBlock) (hat : some g = it.s.ownBlock ∨ some g = some w.heap.size) (hcg : Blk w4 g 39 cg) (hco : Blk w4 ob 39 co)
 (hcg' : Blk w' g 39 (((((cg.setIfInBounds (it.r.length * 5) (.int .i64 d.kind)).setIfInBounds (it.r.length * 5 + 1) (.string d.name)).setIfInBounds (it.r.length * 5 + 2) (.int .i64 d.op)).setIfInBounds (it.r.length * 5 + 3) (.string d.evr)).setIfInBounds (it.r.length * 5 + 4) t))
 (hco' : Blk w' ob 39 (co.setIfInBounds (L.length * 5 + 4) (.slice (some ⟨g, 0, none⟩) (it.r.length + 1) c'))) (ht : Turned [g, ob] w4 w') :
 RSt w0 w' S (.slice (some ⟨ob, 0, none⟩) (L.length + 1) c) (L ++ [⟨it.k, it.r ++ [(d, t)], .slice (some ⟨g, 0, none⟩) (it.r.length + 1) c'⟩]) drow := by
 have hit : it ∈ L ++ [it] := by simp
 have ho := h.open_ (k := ob) rfl
 have hG : ∀ k, k ∈ it.s.ownBlock.toList → it.s.ownBlock = some k := fun k hk => by simpa using hk
 have ht4 : Turned it.s.ownBlock.toList w w4 := (Turned.refl _ w).grown hg fun k hk => .inl (by simp [hk])
 have hgS : ¬ S g ∧ w0.heap.size + 1 + 1 ≤ g ∧ g ≠ ob := by
  rcases hat with h1 | h1
  ·have := h.item hit h1.symm
   exact ⟨this.1, this.2.2.1, fun e => this.2.2.2 (by rw [e]; rfl)⟩
  ·injection h1 with h1
   subst h1
   have := h.below.size
   have := h.res.lt
   have := h.dblk.lt
   refine ⟨fun hs => ?_, by omega, by omega⟩
   obtain ⟨cs, hc⟩ := h.clean _ hs
   have := hc.lt; omega
 have htt : Turned (it.s.ownBlock.toList ++ [g, ob]) w w' := (ht4.more (fun k hk => by simp [hk])).trans (ht.more (F' := it.s.ownBlock.toList ++ [g, ob]) (fun k hk => by simp at hk ⊢; exact .inr hk)) (Fresh.refl _ _)
 have hin : ∀ k, k ∈ it.s.ownBlock.toList ++ [g, ob] → ¬ S k ∧ w0.heap.size + 1 + 1 ≤ k := fun k hk => by
  rcases List.mem_append.1 hk with hk | hk
  ·have := h.item hit (hG k hk)
   exact ⟨this.1, this.2.2.1⟩
  ·simp at hk
   rcases hk with rfl | rfl
   ·exact ⟨hgS.1, hgS.2.1⟩
   ·exact ⟨ho.1, ho.2.2⟩
 have hst : StayS S w w' := StayS.turned htt fun b hb hg => (hin b hg).1 hb
 have hown0 := h.own
 rw [show (L ++ [it]).length = L.length + 1 by simp, adQv] at hown0
 have hobne : it.s.ownBlock ≠ some ob := fun e => (h.item hit e).2.2.2 rfl
 have hown4 : w4.ownsRow (w0.heap.size + 1 + 1) 39 5 (.slice (some ⟨ob, 0, none⟩) (L.length + 1) c) (L.length + 1) (cells5 (L.map adQr) ++ [.int .i64 it.k, .string ⟨#[]⟩, .int .i64 0, .string ⟨#[]⟩, it.s]) :=
  aaQf hown0 ht4 (fun k hk hg => hobne ((hG k hg).trans hk.symm))
 obtain ⟨co2, b1, b2, b3, b4, b5, b6⟩ := own_blk hown4
 have eco : co2 = co := by
  have : some (Obj.cells co2 39 (0, 0)) = some (Obj.cells co 39 (0, 0)) := Eq.trans (Eq.symm b1) hco
  injection this with this; injection this
 subst eco
 obtain ⟨cg2, a1, a2, a3, a4, a5, a6⟩ := own_blk hown
 have ecg : cg2 = cg := by
  have : some (Obj.cells cg2 39 (0, 0)) = some (Obj.cells cg 39 (0, 0)) := Eq.trans (Eq.symm a1) hcg
  injection this with this; injection this
 subst ecg
 have hsp : ∀ (v : Value) (x : OItem), (muts v (L ++ [x])).filterMap id = (muts v L).filterMap id ++ [x.s.ownBlock].filterMap id := fun v x => by
  unfold muts
  rw [List.map_append, ← List.cons_append, List.filterMap_append]
  rfl
 have hnd := h.nodup
 rw [hsp] at hnd
 have hnd' := List.nodup_append.1 hnd
 refine ⟨?_, fun x hx => ?_, ?_, fun k hk => ?_, h.base, h.clean.stay hst, h.res.turned htt (fun hg => ?_), h.dblk.turned htt (fun hg => ?_), ?_, h.tabs.turned htt (fun k hk => ?_), h.two⟩
 ·rw [show (L ++ [(⟨it.k, it.r ++ [(d, t)], .slice (some ⟨g, 0, none⟩) (it.r.length + 1) c'⟩ : OItem)]).length = L.length + 1 by simp, adQv]
  refine anQm hco' b2 b3 b4 (by simpa using b5) ?_
  rw [agQx, b6, adQm (i := L.length * 5 + 4) _ _ 4 _ (by rw [cells5_len]; simp)]
  rfl
 ·rcases List.mem_append.1 hx with hxL | hx
  ·have ha := h.args x (List.mem_append_left _ hxL)
   refine ⟨aaQf ha.1 htt (fun k hk hm => ?_), fun y hy => (ha.2 y hy).stay (fun _ h => h) hst⟩
   have hkm : k ∈ (muts (.slice (some ⟨ob, 0, none⟩) (L.length + 1) c) L).filterMap id := List.mem_filterMap.2 ⟨some k, by simp [muts]; exact .inr ⟨x, hxL, hk⟩, rfl⟩
   rcases List.mem_append.1 hm with hm | hm
   ·exact hnd'.2.2 k hkm k (List.mem_filterMap.2 ⟨it.s.ownBlock, by simp, hG k hm⟩) rfl
   ·simp at hm
    rcases hm with rfl | rfl
    ·rcases hat with h1 | h1
     ·exact hnd'.2.2 k hkm k (List.mem_filterMap.2 ⟨it.s.ownBlock, by simp, h1.symm⟩) rfl
     ·injection h1 with h1
      have := (h.item (it := x) (List.mem_append_left _ hxL) hk).2.1
      omega
    ·exact (h.item (it := x) (List.mem_append_left _ hxL) hk).2.2.2 rfl
  ·have : x = ⟨it.k, it.r ++ [(d, t)], .slice (some ⟨g, 0, none⟩) (it.r.length + 1) c'⟩ := by simpa using hx
   subst this
   refine ⟨?_, fun y hy => ?_⟩
   ·show w'.ownsRow _ _ 5 _ (it.r ++ [(d, t)]).length _
    rw [List.length_append, cells5_append]
    refine anQm hcg' a2 a3 a4 (by simpa using a5) ?_
    have hl := cells5_len it.r
    simp only [agQx]
    show ((((((cg2.toList.take ((it.r.length + 1) * 5)).set _ _).set _ _).set _ _).set _ _).set _ _) = _
    rw [a6, adQm (i := it.r.length * 5) _ _ 0 _ (by omega), adQm (i := it.r.length * 5 + 1) _ _ 1 _ (by omega), adQm (i := it.r.length * 5 + 2) _ _ 2 _ (by omega), adQm (i := it.r.length * 5 + 3) _ _ 3 _ (by omega), adQm (i := it.r.length * 5 + 4) _ _ 4 _ (by omega)]
    rfl
   ·rcases List.mem_append.1 hy with hy | hy
    ·exact ((h.args it hit).2 y hy).stay (fun _ h => h) hst
    ·have : y = (d, t) := by simpa using hy
     subst this
     exact hL.stay (fun _ h => h) hst
 ·rw [hsp]
  refine List.nodup_append.2 ⟨hnd'.1, by simp [Value.ownBlock], fun a ha b hb => ?_⟩
  have hb' : b = g := by simpa [Value.ownBlock] using hb
  subst hb'
  rintro rfl
  rcases hat with h1 | h1
  ·exact hnd'.2.2 a ha a (List.mem_filterMap.2 ⟨it.s.ownBlock, by simp, h1.symm⟩) rfl
  ·injection h1 with h1
   subst h1
   obtain ⟨o, ho', he⟩ := List.mem_filterMap.1 ha
   simp only [id_eq] at he
   subst he
   unfold muts at ho'
   rcases List.mem_cons.1 ho' with h2 | h2
   ·have := (h.open_ h2.symm).2.1; omega
   ·obtain ⟨x, hx, hxk⟩ := List.mem_map.1 h2
    have := (h.item (it := x) (List.mem_append_left _ hx) hxk).2.1; omega
 ·rw [hsp] at hk
  rcases List.mem_append.1 hk with hk | hk
  ·exact h.notS k (by rw [hsp]; exact List.mem_append_left _ hk)
  ·have : k = g := by simpa [Value.ownBlock] using hk
   rw [this]; exact hgS.1
 ·have := (hin _ hg).2; omega
 ·have := (hin _ hg).2; omega
 ·exact h.below.trans (htt.below (fun k hk => by have := (hin k hk).2; omega) h.below.size)
 ·have := (hin k hk).2; have := h.two; omega
end
end Go.Proofs.YtdhgiammfpjniaaGreatDoor.Ev
