/- Parts of the proof. -/
import Derived.Test.YtdhgiammfpjniaaGreatDoorZraj
namespace Go.Proofs.YtdhgiammfpjniaaGreatDoor.Ev
set_option linter.unusedSimpArgs false
set_option linter.unusedVariables false
open Go.RowKit
structure Pend where
 ds : List Dep
 p : Addr
 c : Nat
def Pend.v (x : Pend) : Value := .slice (some x.p) x.ds.length x.c
def pendM : List Pend → Nat
 | [] => 0
 | x :: r => aaQk x.ds + pendM r
theorem abQ4 (a b : List Pend) : pendM (a ++ b) = pendM a + pendM b := by
 induction a with
 | nil => simp [pendM]
 | cons x r ih => simp only [List.cons_append, pendM, ih]; omega
structure aiQn (w : World) (S : Nat → Prop) (d : Dep) (x : Pend) : Prop where
 ne : 0 < x.ds.length
 args : ArgsAt w S x.ds (some x.p)
 cap : x.ds.length ≤ x.c
 cap' : x.c ≤ maxLen
 part : ∀ a ∈ x.ds, ∀ y ∈ abQr a, y ∈ abQr d
def Wait (f : Addr → Int) (P : List Pend) (a : Dep) (t : Value) : Prop :=
 a.args = [] ∨ ∃ q c, t = .slice (some q) a.args.length c ∧ ((∃ x, x ∈ P ∧ x.ds = a.args ∧ x.p = q) ∨ (a.args.length : Int) ≤ f q)
theorem Wait.more {f f' : Addr → Int} {P P' : List Pend} {a : Dep} {t : Value} (h : Wait f P a t) (hP : ∀ x ∈ P, x ∈ P' ∨ (x.ds.length : Int) ≤ f' x.p) (hf : ∀ q, f q ≤ f' q) : Wait f' P' a t := by
 rcases h with h | ⟨q, c, h1, h2⟩
 ·exact .inl h
 ·refine .inr ⟨q, c, h1, ?_⟩
  rcases h2 with ⟨x, hx, h3, h4⟩ | h2
  ·rcases hP x hx with h | h
   ·exact .inl ⟨x, h, h3, h4⟩
   ·rw [h3, h4] at h; exact .inr h
  ·exact .inr (by have := hf q; omega)
structure Sees (g : FuncId) (caps : Array Value) (d : Dep) (N : Nat) (Q : List Dep → List Nat → World → Prop) (bad : Dep → Bool) : Prop where
 enters : ∀ args w, (callFunc g args).run Tryz.prog w = .ok (.enter g args) w
 stab : ∀ l F w w' G, Q l F w → Turned G w w' → (∀ k ∈ G, k ∉ F) → Q l F w'
 call : ∀ (S : Nat → Prop) l F w a t, Q l F w → Lay w S a t → a ∈ abQr d → l.length < N → (∀ k ∈ F, k < w.heap.size) → Tabs w →
  Calls Tryz.prog g (#[.agg (rowD a t)] ++ caps) w fun e w' => ∃ F', Turned F w w' ∧ Fresh w F F' ∧ (∀ k ∈ F', k < w'.heap.size) ∧
   ((bad a = false ∧ e = .returned (.tuple #[]) ∧ Q (l ++ [a]) F' w') ∨ (bad a = true ∧ e = abQf 50))
structure ESt (d : Dep) (S : Nat → Prop) (root : Addr) (w0 : World) (F0 : List Nat) (Q : List Dep → List Nat → World → Prop) (bad : Dep → Bool) (mb : Nat)
 (w : World) (v : Value) (P : List Pend) (m : List (Addr × Int)) (l : List Dep) (F : List Nat) (now : Option (Addr × Nat)) (rest : Nat) : Prop where
 own : w.ownsRow w0.heap.size 35 1 v P.length (P.map Pend.v)
 map : PtrEs w mb m
 keys : ∀ q ∈ m, S q.1.block
 nonneg : ∀ q, 0 ≤ getM m q
 clean : CleanS w S
 pend : ∀ x ∈ P, aiQn w S d x
 cov : ∀ b o i a t, S b → CellsD w b (o + i * 5) a t → Lay w S a t → (i : Int) < getM m ⟨b, o, none⟩ → (∀ q j, now = some (q, j) → q = ⟨b, o, none⟩ → i < j) → a ∈ l ∧ Wait (getM m) P a t
 top : (∃ x, x ∈ P ∧ x.ds = [d] ∧ x.p = root) ∨ 1 ≤ getM m root
 rootAt : ∃ t, S root.block ∧ CellsD w root.block root.off d t ∧ Lay w S d t
 q : Q l F w
 turned : Turned F0 w0 w
 fresh : Fresh w0 F0 F
 old : ∀ k ∈ F, k < w.heap.size
 count : l.length + pendM P + rest ≤ nodes d
 good : ∀ y ∈ l, y ∈ abQr d ∧ bad y = false
 vF : ∀ k, v.ownBlock = some k → k ∉ F
 mbF : mb ∉ F
 sF : ∀ k ∈ F, ¬ S k
 mbS : ¬ S mb
 mbge : w0.heap.size ≤ mb
 tabs : Tabs w
 base : 4 ≤ w0.heap.size
 tF : ∀ k ∈ F0, 4 ≤ k
section
variable {d : Dep} {S : Nat → Prop} {root : Addr} {w0 w w' : World} {F0 F F' : List Nat} {Q : List Dep → List Nat → World → Prop} {bad : Dep → Bool} {mb : Nat} {v : Value} {P : List Pend} {m : List (Addr × Int)} {l : List Dep} {now : Option (Addr × Nat)} {rest N : Nat} {g : FuncId} {caps : Array Value}
theorem agQk (h : ∃ t, S root.block ∧ CellsD w root.block root.off d t ∧ Lay w S d t) (hst : StayS S w w') : ∃ t, S root.block ∧ CellsD w' root.block root.off d t ∧ Lay w' S d t := by
 obtain ⟨t, h1, h2, h3⟩ := h
 exact ⟨t, h1, h2.stay (hst _ h1 h2.lt), h3.stay (fun _ h => h) hst⟩
theorem aiQ7 (h : ESt d S root w0 F0 Q bad mb w v P m l F now rest) {k : Nat} (hk : v.ownBlock = some k) : ¬ S k := fun hs => by
 obtain ⟨cs, hc⟩ := h.clean k hs
 exact own_kind h.own hc (by decide) hk
theorem map_lt (h : PtrEs w mb m) : mb < w.heap.size := by
 obtain ⟨es, clock, hb, _⟩ := h
 exact (Array.getElem?_eq_some_iff.1 hb).1
theorem afQt {G : List Nat} (h : PtrEs w mb m) (ht : Turned G w w') (hn : mb ∉ G) : PtrEs w' mb m := by
 have hlt := map_lt h
 obtain ⟨es, clock, hb, r⟩ := h
 exact ⟨es, clock, (ht.block mb hlt hn).trans hb, r⟩
theorem aiQc (h : ESt d S root w0 F0 Q bad mb w v P m l F now rest) {k : Nat} (hk : v.ownBlock = some k) : k ≠ mb := by
 rintro rfl
 obtain ⟨es, clock, hb, _⟩ := h.map
 rcases h.own.2 with ⟨rfl, _⟩ | ⟨g', cap, cur, rfl, _, hh, _⟩
 ·simp [Value.ownBlock] at hk
 ·have hg' : g' = k := by simpa [Value.ownBlock] using hk
  subst hg'
  rw [hb] at hh; cases hh
theorem aqQt : ∀ P : List Pend, (∀ x ∈ P, 0 < x.ds.length) → P.length ≤ pendM P := by
 intro P
 induction P with
 | nil => intro _; simp
 | cons y r ih =>
   intro hy
   have h1 := hy y (by simp)
   have h2 := ih fun z hz => hy z (by simp [hz])
   have h3 := abQ7 y.ds
   simp only [List.length_cons, pendM]
   omega
theorem ESt.len (h : ESt d S root w0 F0 Q bad mb w v P m l F now rest) : P.length ≤ nodes d := by
 have := aqQt P fun y hy => (h.pend y hy).ne
 have := h.count
 omega
theorem ESt.grow (h : ESt d S root w0 F0 Q bad mb w v P m l F now rest) (hgr : w.grownBy w' v.ownBlock) : StayS S w w' := fun b hb hl =>
 hgr.block b hl (fun e => aiQ7 h e.symm hb)
theorem ESt.world (h : ESt d S root w0 F0 Q bad mb w v P m l F now rest) (hs : Sees g caps d N Q bad) {G : List Nat} (ht : Turned G w w') (hF : ∀ k ∈ G, k ∉ F) (hv : ∀ k ∈ G, v.ownBlock ≠ some k) (hm : mb ∉ G) (hS : ∀ k ∈ G, ¬ S k) (h0 : ∀ k ∈ G, w0.heap.size ≤ k) :
 ESt d S root w0 F0 Q bad mb w' v P m l F now rest := by
 have hst : StayS S w w' := StayS.turned ht fun b hb hg => hS b hg hb
 refine ⟨aaQf h.own ht (fun k hk hg => hv k hg hk), afQt h.map ht hm, h.keys, h.nonneg, h.clean.stay hst, fun x hx => ?_, fun b o i a t hb hc hL hi hn => ?_, h.top, agQk h.rootAt hst, hs.stab _ _ _ _ _ h.q ht hF, ?_, h.fresh, fun k hk => Nat.lt_of_lt_of_le (h.old k hk) ht.size, h.count, h.good, h.vF, h.mbF, h.sF, h.mbS, h.mbge, ?_, h.base, h.tF⟩
 ·have := h.pend x hx
  exact ⟨this.ne, this.args.stay (fun _ h => h) hst, this.cap, this.cap', this.part⟩
 ·-- what lies there lay there
  obtain ⟨cs, hcl⟩ := h.clean b hb
  have back : StayS S w' w := fun b' hb' _ => by
   obtain ⟨cs', hcl'⟩ := h.clean b' hb'
   exact (hst b' hb' hcl'.lt).symm
  exact h.cov b o i a t hb (hc.stay (hst b hb hcl.lt).symm) (hL.stay (fun _ h => h) back) hi hn
 ·exact h.turned.trans ht fun k hk => .inr (h0 k hk)
 ·exact h.tabs.turned ht fun k hk => Nat.le_trans h.base (h0 k hk)
theorem ESt.below (h : ESt d S root w0 F0 Q bad mb w v P m l F now rest) (hs : Sees g caps d N Q bad) (hb : Below w.heap.size w w') : ESt d S root w0 F0 Q bad mb w' v P m l F now rest :=
 h.world hs (G := []) (Turned.of_below hb []) (fun k hk => by cases hk) (fun k hk => by cases hk) (by simp) (fun k hk => by cases hk) (fun k hk => by cases hk)
theorem ESt.skip {x : Pend} {v' : Value} (h : ESt d S root w0 F0 Q bad mb w v (P ++ [x]) m l F none rest) (hv : w.ownsRow w0.heap.size 35 1 v' P.length (P.map Pend.v)) (hb : v'.ownBlock = v.ownBlock) (hx : (x.ds.length : Int) ≤ getM m x.p) :
 ESt d S root w0 F0 Q bad mb w v' P m l F none rest := by
 refine ⟨hv, h.map, h.keys, h.nonneg, h.clean, fun y hy => h.pend y (by simp [hy]), fun b o i a t h1 h2 h3 h4 h5 => ?_, ?_, h.rootAt, h.q, h.turned, h.fresh, h.old, ?_, h.good, fun k hk => h.vF k (hb ▸ hk), h.mbF, h.sF, h.mbS, h.mbge, h.tabs, h.base, h.tF⟩
 ·obtain ⟨c1, c2⟩ := h.cov b o i a t h1 h2 h3 h4 h5
  refine ⟨c1, c2.more (fun y hy => ?_) (fun q => Int.le_refl _)⟩
  rcases List.mem_append.1 hy with hy | hy
  ·exact .inl hy
  ·have : y = x := by simpa using hy
   subst this; exact .inr hx
 ·rcases h.top with ⟨y, hy, h1, h2⟩ | h1
  ·rcases List.mem_append.1 hy with hy | hy
   ·exact .inl ⟨y, hy, h1, h2⟩
   ·have : y = x := by simpa using hy
    subst this
    rw [h1, h2] at hx
    exact .inr (by simpa using hx)
  ·exact .inr h1
 ·have := h.count; rw [abQ4] at this; simp only [pendM] at this; omega
theorem ESt.start {x : Pend} {v' : Value} {n : Nat} (h : ESt d S root w0 F0 Q bad mb w v (P ++ [x]) m l F none 0) (hs : Sees g caps d N Q bad) (hv : w.ownsRow w0.heap.size 35 1 v' P.length (P.map Pend.v)) (hb : v'.ownBlock = v.ownBlock)
 (hn : getM m x.p = n) (hlt : n < x.ds.length) (hSx : S x.p.block) (hM : PtrEs w' mb (putM m x.p x.ds.length)) (ht : Turned [mb] w w') :
 ESt d S root w0 F0 Q bad mb w' v' P (putM m x.p x.ds.length) l F (some (x.p, n)) (aaQk (x.ds.drop n)) := by
 have h1 : ESt d S root w0 F0 Q bad mb w v' (P ++ [x]) m l F none 0 → True := fun _ => trivial
 have hvk : ∀ k, v'.ownBlock = some k → k ≠ mb ∧ ¬ S k := fun k hk => ⟨aiQc h (hb ▸ hk), aiQ7 h (hb ▸ hk)⟩
 have hst : StayS S w w' := StayS.turned ht fun b hbS hg => h.mbS ((List.mem_singleton.1 hg) ▸ hbS)
 have back : StayS S w' w := fun b' hb' _ => by
  obtain ⟨cs', hcl'⟩ := h.clean b' hb'
  exact (hst b' hb' hcl'.lt).symm
 have hmono : ∀ q, getM m q ≤ getM (putM m x.p x.ds.length) q := fun q => by
  rw [agQq]; split
  ·rename_i hq; subst hq; omega
  ·exact Int.le_refl _
 have hself : (x.ds.length : Int) ≤ getM (putM m x.p x.ds.length) x.p := by rw [agQq, if_pos rfl]; exact Int.le_refl _
 refine ⟨aaQf hv ht (fun k hk hg => (hvk k hk).1 (by simpa using hg)), hM, fun q hq => ?_, fun q => Int.le_trans (h.nonneg q) (hmono q), h.clean.stay hst, fun y hy => ?_, fun b o i a t hbS hc hL hi hnow => ?_, ?_, agQk h.rootAt hst, hs.stab _ _ _ _ _ h.q ht (fun k hk => ?_), h.turned.trans ht (fun k hk => ?_), h.fresh, fun k hk => Nat.lt_of_lt_of_le (h.old k hk) ht.size, ?_, h.good, fun k hk => h.vF k (hb ▸ hk), h.mbF, h.sF, h.mbS, h.mbge, h.tabs.turned ht (fun k hk => ?_), h.base, h.tF⟩
 ·rcases putM_mem hq with hq | rfl
  ·exact h.keys q hq
  ·exact hSx
 ·have := h.pend y (by simp [hy])
  exact ⟨this.ne, this.args.stay (fun _ h => h) hst, this.cap, this.cap', this.part⟩
 ·obtain ⟨cs, hcl⟩ := h.clean b hbS
  have hi' : (i : Int) < getM m ⟨b, o, none⟩ := by
   rw [agQq] at hi
   split at hi
   ·rename_i hq
    have := hnow x.p n rfl hq.symm
    rw [hq, hn]; omega
   ·exact hi
  obtain ⟨c1, c2⟩ := h.cov b o i a t hbS (hc.stay (hst b hbS hcl.lt).symm) (hL.stay (fun _ h => h) back) hi' (fun q j e => by cases e)
  refine ⟨c1, c2.more (fun y hy => ?_) hmono⟩
  rcases List.mem_append.1 hy with hy | hy
  ·exact .inl hy
  ·have : y = x := by simpa using hy
   subst this; exact .inr hself
 ·rcases h.top with ⟨y, hy, h2, h3⟩ | h2
  ·rcases List.mem_append.1 hy with hy | hy
   ·exact .inl ⟨y, hy, h2, h3⟩
   ·have : y = x := by simpa using hy
    subst this
    rw [h2, h3] at hself
    exact .inr (by rw [h2, h3]; simpa using hself)
  ·exact .inr (Int.le_trans h2 (hmono root))
 ·have : k = mb := by simpa using hk
  rw [this]; exact h.mbF
 ·have : k = mb := by simpa using hk
  rw [this]; exact .inr h.mbge
 ·have := h.count
  rw [abQ4] at this
  simp only [pendM] at this
  have hd : aaQk (x.ds.drop n) ≤ aaQk x.ds := by
   conv => rhs; rw [← List.take_append_drop n x.ds, abQm]
   omega
  omega
 ·have : k = mb := by simpa using hk
  rw [this]; exact Nat.le_trans h.base h.mbge
theorem ESt.seen {x : Pend} {n : Nat} {a : Dep} {t : Value} {v' : Value} {P' : List Pend} {w1 : World} (h : ESt d S root w0 F0 Q bad mb w v P m l F (some (x.p, n)) (aaQk (x.ds.drop n)))
 (ha : x.ds[n]? = some a) (hpart : a ∈ abQr d) (hbad : bad a = false) {b o : Nat} (hp : x.p = ⟨b, o, none⟩) (hSb : S b) (hC : CellsD w b (o + n * 5) a t) (hL : Lay w S a t)
 (hs : Sees g caps d N Q bad) (hT : Turned F w w1) (hFr : Fresh w F F') (hF' : ∀ k ∈ F', k < w1.heap.size) (hQ : Q (l ++ [a]) F' w1) (hmono : w.heap.size ≤ w1.heap.size) :
 ESt d S root w0 F0 Q bad mb w1 v P m (l ++ [a]) F' (some (x.p, n)) (aaQk (x.ds.drop (n + 1)) + aaQk a.args) := by
 have hst : StayS S w w1 := StayS.turned hT fun b hbS hg => h.sF b hg hbS
 have back : StayS S w1 w := fun b' hb' _ => by
  obtain ⟨cs', hcl'⟩ := h.clean b' hb'
  exact (hst b' hb' hcl'.lt).symm
 have hdrop : x.ds.drop n = a :: x.ds.drop (n + 1) := by
  have hlt : n < x.ds.length := (List.getElem?_eq_some_iff.1 ha).1
  rw [List.drop_eq_getElem_cons hlt]
  rw [List.getElem?_eq_getElem hlt] at ha
  injection ha with ha
  rw [ha]
 have hvlt : ∀ k, v.ownBlock = some k → k < w.heap.size := fun k hk => adQx h.own hk
 refine ⟨aaQf h.own hT (fun k hk => h.vF k hk), afQt h.map hT h.mbF, h.keys, h.nonneg, h.clean.stay hst, fun y hy => ?_, fun b' o' i a' t' hbS hc hL' hi hnow => ?_, h.top, agQk h.rootAt hst, hQ, h.turned.trans hT h.fresh, h.fresh.trans h.turned.size hFr, hF', ?_, fun y hy => ?_, fun k hk hm => ?_, fun hm => ?_, fun k hk hsk => ?_, h.mbS, h.mbge, h.tabs.turned hT (fun k hk => ?_), h.base, h.tF⟩
 ·have := h.pend y hy
  exact ⟨this.ne, this.args.stay (fun _ h => h) hst, this.cap, this.cap', this.part⟩
 ·obtain ⟨cs, hcl⟩ := h.clean b' hbS
  obtain ⟨c1, c2⟩ := h.cov b' o' i a' t' hbS (hc.stay (hst b' hbS hcl.lt).symm) (hL'.stay (fun _ h => h) back) hi hnow
  exact ⟨by simp [c1], c2⟩
 ·have := h.count
  rw [hdrop] at this
  simp only [aaQk] at this
  rw [abQ1 a] at this
  simp only [List.length_append, List.length_cons, List.length_nil]
  omega
 ·rcases List.mem_append.1 hy with hy | hy
  ·exact h.good y hy
  ·have : y = a := by simpa using hy
   subst this; exact ⟨hpart, hbad⟩
 ·rcases hFr k hm with h1 | h1
  ·exact h.vF k hk h1
  ·have := hvlt k hk; omega
 ·rcases hFr mb hm with h1 | h1
  ·exact h.mbF h1
  ·have := map_lt h.map; omega
 ·rcases hFr k hk with h1 | h1
  ·exact h.sF k h1 hsk
  ·obtain ⟨cs, hcl⟩ := h.clean k hsk
   have := hcl.lt; omega
 ·rcases h.fresh k hk with h1 | h1
  ·exact h.tF k h1
  ·exact Nat.le_trans h.base h1
theorem ESt.step0 {x : Pend} {n : Nat} {a : Dep} {t : Value} {b o : Nat} (h : ESt d S root w0 F0 Q bad mb w v P m l F (some (x.p, n)) (aaQk (x.ds.drop (n + 1)) + aaQk a.args)) (hp : x.p = ⟨b, o, none⟩) (hm : a ∈ l)
 (hSb : S b) (hC : CellsD w b (o + n * 5) a t) (hL : Lay w S a t) (h0 : a.args = []) : ESt d S root w0 F0 Q bad mb w v P m l F (some (x.p, n + 1)) (aaQk (x.ds.drop (n + 1))) := by
 refine ⟨h.own, h.map, h.keys, h.nonneg, h.clean, h.pend, fun b' o' i a' t' hbS hc hL' hi hnow => ?_, h.top, h.rootAt, h.q, h.turned, h.fresh, h.old, by have := h.count; omega, h.good, h.vF, h.mbF, h.sF, h.mbS, h.mbge, h.tabs, h.base, h.tF⟩
 by_cases he : x.p = ⟨b', o', none⟩ ∧ i = n
 ·obtain ⟨he, rfl⟩ := he
  rw [hp] at he
  injection he with e1 e2
  subst e1; subst e2
  obtain ⟨rfl, rfl⟩ := at_det hC hL hc hL'
  exact ⟨hm, .inl h0⟩
 ·refine h.cov b' o' i a' t' hbS hc hL' hi fun q j e eq => ?_
  injection e with e; injection e with e1 e2
  subst e1; subst e2
  have := hnow x.p (n + 1) rfl eq
  have : i ≠ n := fun e => he ⟨eq, e⟩
  omega
theorem ESt.step1 {x : Pend} {n : Nat} {a : Dep} {t : Value} {b o : Nat} {y : Pend} {v' : Value} {w1 : World} (h : ESt d S root w0 F0 Q bad mb w v P m l F (some (x.p, n)) (aaQk (x.ds.drop (n + 1)) + aaQk a.args)) (hp : x.p = ⟨b, o, none⟩) (hm : a ∈ l)
 (hSb : S b) (hC : CellsD w b (o + n * 5) a t) (hL : Lay w S a t) (hy : aiQn w S d y) (hyd : y.ds = a.args) (hyt : t = y.v) (hs : Sees g caps d N Q bad)
 (hown : w1.ownsRow w0.heap.size 35 1 v' (P.length + 1) (P.map Pend.v ++ [y.v])) (hgr : w.grownBy w1 v.ownBlock) (hvb : v'.ownBlock = v.ownBlock ∨ v'.ownBlock = some w.heap.size) :
 ESt d S root w0 F0 Q bad mb w1 v' (P ++ [y]) m l F (some (x.p, n + 1)) (aaQk (x.ds.drop (n + 1))) := by
 have ht : Turned (match v.ownBlock with | some k => [k] | none => []) w w1 := by
  refine (Turned.refl _ w).grown hgr fun k hk => ?_
  rw [hk]; simp
 have hG : ∀ k, k ∈ (match v.ownBlock with | some k => [k] | none => []) → v.ownBlock = some k := fun k hk => by
  cases hv : v.ownBlock with
  | none => rw [hv] at hk; cases hk
  | some k' => rw [hv] at hk; simp at hk; rw [hk]
 have hst : StayS S w w1 := StayS.turned ht fun b hbS hg => aiQ7 h (hG b hg) hbS
 have back : StayS S w1 w := fun b' hb' _ => by
  obtain ⟨cs', hcl'⟩ := h.clean b' hb'
  exact (hst b' hb' hcl'.lt).symm
 have pst : ∀ z, aiQn w S d z → aiQn w1 S d z := fun z hz => ⟨hz.ne, hz.args.stay (fun _ h => h) hst, hz.cap, hz.cap', hz.part⟩
 refine ⟨by simpa using hown, afQt h.map ht (fun hg => aiQc h (hG _ hg) rfl), h.keys, h.nonneg, h.clean.stay hst, fun z hz => ?_, fun b' o' i a' t' hbS hc hL' hi hnow => ?_, ?_, agQk h.rootAt hst, hs.stab _ _ _ _ _ h.q ht (fun k hk => h.vF k (hG k hk)), ?_, h.fresh, fun k hk => Nat.lt_of_lt_of_le (h.old k hk) ht.size, ?_, h.good, fun k hk hF => ?_, h.mbF, h.sF, h.mbS, h.mbge, h.tabs.turned ht (fun k hk => ?_), h.base, h.tF⟩
 ·rcases List.mem_append.1 hz with hz | hz
  ·exact pst z (h.pend z hz)
  ·have : z = y := by simpa using hz
   subst this; exact pst _ hy
 ·obtain ⟨cs, hcl⟩ := h.clean b' hbS
  have hc' := hc.stay (hst b' hbS hcl.lt).symm
  have hL2 := hL'.stay (S' := S) (fun _ h => h) back
  by_cases he : x.p = ⟨b', o', none⟩ ∧ i = n
  ·obtain ⟨he, rfl⟩ := he
   rw [hp] at he
   injection he with e1 e2
   subst e1; subst e2
   obtain ⟨rfl, rfl⟩ := at_det hC hL hc' hL2
   refine ⟨hm, .inr ⟨y.p, y.c, by rw [hyt, ← hyd]; rfl, .inl ⟨y, by simp, hyd, rfl⟩⟩⟩
  ·obtain ⟨c1, c2⟩ := h.cov b' o' i a' t' hbS hc' hL2 hi fun q j e eq => by
    injection e with e; injection e with e1 e2
    subst e1; subst e2
    have := hnow x.p (n + 1) rfl eq
    have : i ≠ n := fun e => he ⟨eq, e⟩
    omega
   exact ⟨c1, c2.more (fun z hz => .inl (by simp [hz])) (fun q => Int.le_refl _)⟩
 ·rcases h.top with ⟨z, hz, h1, h2⟩ | h1
  ·exact .inl ⟨z, by simp [hz], h1, h2⟩
  ·exact .inr h1
 ·refine h.turned.trans ht fun k hk => ?_
  rcases h.own.2 with ⟨rfl, _⟩ | ⟨g', cap, cur, rfl, hb, _⟩
  ·simp [Value.ownBlock] at hk
  ·have : k = g' := by simpa [Value.ownBlock] using hk
   subst this; exact .inr hb
 ·have := h.count
  rw [abQ4]
  simp only [pendM, hyd]
  omega
 ·rcases hvb with h1 | h1
  ·exact h.vF k (by rw [← h1]; exact hk) hF
  ·rw [h1] at hk; injection hk with hk
   have := h.old k hF; omega
 ·have := hG k hk
  rcases h.own.2 with ⟨rfl, _⟩ | ⟨g', cap, cur, rfl, hb, _⟩
  ·simp [Value.ownBlock] at this
  ·have e : k = g' := by simpa [Value.ownBlock] using this.symm
   rw [e]; exact Nat.le_trans h.base hb
theorem ESt.closed {x : Pend} (h : ESt d S root w0 F0 Q bad mb w v P m l F (some (x.p, x.ds.length)) (aaQk (x.ds.drop x.ds.length))) (hm : getM m x.p = x.ds.length) : ESt d S root w0 F0 Q bad mb w v P m l F none 0 := by
 refine ⟨h.own, h.map, h.keys, h.nonneg, h.clean, h.pend, fun b' o' i a' t' hbS hc hL' hi _ => ?_, h.top, h.rootAt, h.q, h.turned, h.fresh, h.old, by have := h.count; omega, h.good, h.vF, h.mbF, h.sF, h.mbS, h.mbge, h.tabs, h.base, h.tF⟩
 refine h.cov b' o' i a' t' hbS hc hL' hi fun q j e eq => ?_
 injection e with e; injection e with e1 e2
 subst e1; subst e2
 rw [← eq, hm] at hi
 omega
theorem ESt.all {b o : Nat} (h : ESt d S ⟨b, o, none⟩ w0 F0 Q bad mb w v [] m l F none 0) : ∀ y ∈ abQr d, y ∈ l := by
 obtain ⟨t, hSb, hC, hL⟩ := h.rootAt
 have key : ∀ (a : Dep) (b o i : Nat) (t : Value), S b → CellsD w b (o + i * 5) a t → Lay w S a t → (i : Int) < getM m ⟨b, o, none⟩ → ∀ y ∈ abQr a, y ∈ l := by
  intro a
  induction a using Dep.ind with
  | h k n op e ds ih =>
    intro b o i t hSb hC hL hi y hy
    obtain ⟨c1, c2⟩ := h.cov b o i _ t hSb hC hL hi (fun q j e => by cases e)
    rcases mem_partsOf.1 hy with rfl | ⟨a, ha, hya⟩
    ·exact c1
    ·rcases c2 with h0 | ⟨q, c, rfl, h2⟩
     ·rw [h0] at ha; cases ha
     ·rcases h2 with ⟨x, hx, _⟩ | h2
      ·cases hx
      ·obtain ⟨j, hj, hja⟩ := List.mem_iff_getElem.1 ha
       obtain ⟨A', c', he, _, _, hA⟩ := hL.args_
       injection he with e1 e2 e3
       obtain ⟨b', o', t', q1, q2, q3, q4⟩ := hA j a (by rw [List.getElem?_eq_getElem hj, hja])
       rw [← e1] at q1
       injection q1 with q1
       subst q1
       exact ih a ha b' o' j t' q2 q3 q4 (by omega) y hya
 rcases h.top with ⟨x, hx, _⟩ | h1
 ·cases hx
 ·exact key d b o 0 t hSb (by simpa using hC) hL (by omega)
end
end Go.Proofs.YtdhgiammfpjniaaGreatDoor.Ev
namespace Go.Proofs.YtdhgiammfpjniaaGreatDoor.Ev
set_option linter.unusedSimpArgs false
set_option linter.unusedVariables false
open Go.RowKit
theorem run_make (w : World) : (Instr.makeMap 209 none).run Tryz.prog w = .ok (.map (some w.heap.size)) (w.alloc (.map #[] 0)) := by
 simp [Instr.makeMap, Result.andThen]
theorem least_ex {p : Nat → Prop} (h : ∃ n, p n) : ∃ n, p n ∧ ∀ m, p m → n ≤ m := by
 obtain ⟨n, hn⟩ := h
 induction n using Nat.strongRecOn with
 | ind n ih =>
   by_cases h : ∃ m, m < n ∧ p m
   ·obtain ⟨m, hm, hp⟩ := h
    exact ih m hm hp
   ·exact ⟨n, hn, fun m hm => by
     rcases Nat.lt_or_ge m n with h' | h'
     ·exact absurd ⟨m, h', hm⟩ h
     ·exact h'⟩
open Classical in
noncomputable def aiQi (p : Nat → Prop) : Nat := if h : ∃ n, p n ∧ ∀ m, p m → n ≤ m then Classical.choose h else 0
theorem agQo {p : Nat → Prop} (h : ∃ n, p n) : p (aiQi p) ∧ ∀ m, p m → aiQi p ≤ m := by
 have h' := least_ex h
 unfold aiQi
 rw [dif_pos h']
 exact Classical.choose_spec h'
def aoQc (d : Dep) (w0 : World) (F0 : List Nat) (Q : List Dep → List Nat → World → Prop) (bad : Dep → Bool) (e : Ending) (w' : World) : Prop :=
 ∃ F', Turned F0 w0 w' ∧ Fresh w0 F0 F' ∧ (∀ k ∈ F', k < w'.heap.size) ∧
   ((e = .returned (.tuple #[]) ∧ ∃ l, Q l F' w' ∧ (∀ x ∈ abQr d, x ∈ l) ∧ (∀ x ∈ l, x ∈ abQr d ∧ bad x = false)) ∨ (e = abQf 50 ∧ ∃ a, a ∈ abQr d ∧ bad a = true))
def SE (S : Nat → Prop) (w0 : World) : Nat → Prop := fun k => S k ∨ k = w0.heap.size + 1 + 1
def JE (d : Dep) (S : Nat → Prop) (w0 : World) (F0 : List Nat) (Q : List Dep → List Nat → World → Prop) (bad : Dep → Bool) (v : Value) (w : World) (n : Nat) : Prop :=
 ∃ P m l F, pendM P = n ∧ ESt d (SE S w0) ⟨w0.heap.size + 1 + 1, 0, none⟩ w0 F0 Q bad (w0.heap.size + 1) w v P m l F none 0
theorem apQm : ∃ i, Tryz.prog.info? 35 = some i ∧ i.zero = some (.slice none 0 0) ∧ i.size = 1 ∧ i.bytes = 24 := by
 have h : (Tryz.prog.info? 35).map (fun i => (i.zero, i.size, i.bytes)) = some (some (.slice none 0 0), 1, 24) := by kernel_rfl
 obtain ⟨i, hi, h2⟩ := Option.map_eq_some_iff.1 h
 simp only [Prod.mk.injEq] at h2
 exact ⟨i, hi, h2.1, h2.2.1, h2.2.2⟩
theorem amQx {α : Type} (l : List α) : l = [] ∨ ∃ r x, l = r ++ [x] := by
 rcases List.eq_nil_or_concat l with h | ⟨r, x, h⟩
 ·exact .inl h
 ·exact .inr ⟨r, x, by rw [h, List.concat_eq_append]⟩
theorem ESt.init (d : Dep) (s : Value) (S : Nat → Prop) (w0 : World) (F0 : List Nat) (Q : List Dep → List Nat → World → Prop) (bad : Dep → Bool) (g : FuncId) (caps : Array Value) (N : Nat)
 (hs : Sees g caps d N Q bad) (hL : Lay w0 S d s) (hC : CleanS w0 S) (hQ : Q [] F0 w0) (hF : ∀ k ∈ F0, k < w0.heap.size ∧ 4 ≤ k ∧ ¬ S k) (hT : Tabs w0) :
 ESt d (SE S w0) ⟨w0.heap.size + 1 + 1, 0, none⟩ w0 F0 Q bad (w0.heap.size + 1)
  ((((w0.alloc (.cells (rowD d s) 39)).alloc (.map #[] 0)).alloc (.cells (rowD d s) 39)).alloc (.cells #[.slice (some ⟨w0.heap.size + 1 + 1, 0, none⟩) 1 1] 35))
  (.slice (some ⟨w0.heap.size + 1 + 1 + 1, 0, none⟩) 1 1) [⟨[d], ⟨w0.heap.size + 1 + 1, 0, none⟩, 1⟩] [] [] F0 none 0 := by
 have hb : Below w0.heap.size w0 ((((w0.alloc (.cells (rowD d s) 39)).alloc (.map #[] 0)).alloc (.cells (rowD d s) 39)).alloc (.cells #[.slice (some ⟨w0.heap.size + 1 + 1, 0, none⟩) 1 1] 35)) :=
  ((((Below.refl _ _).alloc (Nat.le_refl _) _).alloc (by simp) _).alloc (by simp; omega) _).alloc (by simp; omega) _
 have kM : ((((w0.alloc (.cells (rowD d s) 39)).alloc (.map #[] 0)).alloc (.cells (rowD d s) 39)).alloc (.cells #[.slice (some ⟨w0.heap.size + 1 + 1, 0, none⟩) 1 1] 35)).heap[w0.heap.size + 1]? = some (.map #[] 0) := by
  rw [Below.heap_alloc _ _ _ (by simp), Below.heap_alloc _ _ _ (by simp)]
  have := heap_alloc_new (w0.alloc (.cells (rowD d s) 39)) (.map #[] 0)
  simpa using this
 have kD : Blk ((((w0.alloc (.cells (rowD d s) 39)).alloc (.map #[] 0)).alloc (.cells (rowD d s) 39)).alloc (.cells #[.slice (some ⟨w0.heap.size + 1 + 1, 0, none⟩) 1 1] 35)) (w0.heap.size + 1 + 1) 39 (rowD d s) :=
  (Blk.new' (w := (w0.alloc (.cells (rowD d s) 39)).alloc (.map #[] 0)) (by simp)).alloc _
 have kA : Blk ((((w0.alloc (.cells (rowD d s) 39)).alloc (.map #[] 0)).alloc (.cells (rowD d s) 39)).alloc (.cells #[.slice (some ⟨w0.heap.size + 1 + 1, 0, none⟩) 1 1] 35)) (w0.heap.size + 1 + 1 + 1) 35 #[.slice (some ⟨w0.heap.size + 1 + 1, 0, none⟩) 1 1] :=
  Blk.new' (w := ((w0.alloc (.cells (rowD d s) 39)).alloc (.map #[] 0)).alloc (.cells (rowD d s) 39)) (by simp)
 generalize ((((w0.alloc (.cells (rowD d s) 39)).alloc (.map #[] 0)).alloc (.cells (rowD d s) 39)).alloc (.cells #[.slice (some ⟨w0.heap.size + 1 + 1, 0, none⟩) 1 1] 35)) = w1 at *
 have hst : StayS S w0 w1 := StayS.below' hb
 have hCD : CellsD w1 (w0.heap.size + 1 + 1) 0 d s := ⟨kD.cell 0, kD.cell 1, kD.cell 2, kD.cell 3, kD.cell 4⟩
 have hSlt : ∀ k, S k → k < w0.heap.size := fun k hk => by obtain ⟨cs, hc⟩ := hC k hk; exact hc.lt
 refine ⟨⟨rfl, .inr ⟨_, 1, _, rfl, by omega, kA, by simp, by simp [maxLen], rfl, rfl⟩⟩, ⟨_, _, kM, rfl⟩, fun q hq => (by cases hq), fun q => Int.le_refl _, fun b hbS => ?_, fun x hx => ?_, fun b o i a t _ _ _ hi _ => ?_, .inl ⟨⟨[d], ⟨w0.heap.size + 1 + 1, 0, none⟩, 1⟩, by simp, rfl, rfl⟩, ⟨s, .inr rfl, hCD, hL.stay (fun _ h => .inl h) hst⟩, ?_, ?_, Fresh.refl _ _, fun k hk => Nat.lt_of_lt_of_le (hF k hk).1 hb.size, ?_, fun y hy => (by cases hy), fun k hk hm => ?_, fun hm => ?_, fun k hk hS => ?_, fun hS => ?_, by omega, hT.below hb hT.two, hT.two, fun k hk => (hF k hk).2.1⟩
 ·rcases hbS with h | rfl
  ·exact hC.stay hst b h
  ·exact ⟨_, kD⟩
 ·have : x = ⟨[d], ⟨w0.heap.size + 1 + 1, 0, none⟩, 1⟩ := by simpa using hx
  subst this
  refine ⟨by simp, fun j a ha => ?_, by simp, by simp [maxLen], fun a ha y hy => ?_⟩
  ·cases j with
   | zero =>
     simp at ha; subst ha
     exact ⟨_, 0, s, rfl, .inr rfl, by simpa using hCD, hL.stay (fun _ h => .inl h) hst⟩
   | succ j => simp at ha
  ·have : a = d := by simpa using ha
   subst this; exact hy
 ·simp only [getM] at hi; omega
 ·exact hs.stab _ _ _ _ [] hQ (Turned.of_below hb []) (fun k hk => by cases hk)
 ·exact Turned.of_below hb F0
 ·simp only [pendM, aaQk, List.length_nil]; omega
 ·have := (hF k hm).1
  simp only [Value.ownBlock, Option.some.injEq] at hk
  omega
 ·have := (hF _ hm).1; omega
 ·rcases hS with h | h
  ·exact (hF k hk).2.2 h
  ·have := (hF k hk).1; omega
 ·rcases hS with h | h
  ·have := hSlt _ h; omega
  ·omega
set_option maxHeartbeats 8000000 in
set_option maxRecDepth 1000000 in
theorem each_any (d : Dep) (s : Value) (S : Nat → Prop) (w0 : World) (F0 : List Nat) (Q : List Dep → List Nat → World → Prop) (bad : Dep → Bool) (g : FuncId) (caps : Array Value) (N : Nat)
 (hs : Sees g caps d N Q bad) (hL : Lay w0 S d s) (hC : CleanS w0 S) (hQ : Q [] F0 w0) (hF : ∀ k ∈ F0, k < w0.heap.size ∧ 4 ≤ k ∧ ¬ S k) (hT : Tabs w0) (hN : nodes d ≤ N) (hN2 : N ≤ 4194304) :
 Calls Tryz.prog 219 #[.agg (rowD d s), .func (.func g) #[] caps] w0 (aoQc d w0 F0 Q bad) := by
 have hmf : ∀ (fn : Fn) (first cap : Array Value) (w : World), (Instr.makeFunc fn first cap).run Tryz.prog w = .ok (.func fn first cap) w := fun _ _ _ _ => rfl
 have HS := hQQ hs
 have hmk := run_make
 have HI := hQQ (ESt.init d s S w0 F0 Q bad g caps N hs hL hC hQ hF hT)
 have ef := hs.enters
 clear hs hC hQ hF hT hL
 unfold rowD at HI ⊢
 go_enter Tryz.func219, Tryz.ntmps219
 go_wp2_with fail
 generalize ((((w0.alloc (.cells #[.int .i64 d.kind, .string d.name, .int .i64 d.op, .string d.evr, s] 39)).alloc (.map #[] 0)).alloc (.cells #[.int .i64 d.kind, .string d.name, .int .i64 d.op, .string d.evr, s] 39)).alloc (.cells #[.slice (some ⟨w0.heap.size + 1 + 1, 0, none⟩) 1 1] 35)) = w1 at *
 clear hmk
 go_loopw [5] (fun v wx => ∃ n, JE d S w0 F0 Q bad v wx n) (fun v wx => aiQi (JE d S w0 F0 Q bad v wx))
 case atStart => exact ⟨_, _, _, _, _, rfl, HI.out⟩
 case round =>
  have hle := (agQo hrel).2
  obtain ⟨P, m, l, F, hn, h⟩ := (agQo hrel).1
  clear hrel HI
  have HLE := hQQ hle
  have HN := hQQ hn
  clear hle hn
  rcases amQx P with rfl | ⟨P0, x, rfl⟩
  ·obtain ⟨A, c, rfl, _, _⟩ := aaQc h.own
   have H := hQQ h
   clear h HLE HN
   simp only [List.length_nil]
   go_wp2_with fail
   go_end0
   exact ⟨F, H.out.turned, H.out.fresh, H.out.old, .inl ⟨rfl, l, H.out.q, H.out.all, H.out.good⟩⟩
  ·obtain ⟨A, c, hv, hac, hc⟩ := aaQc h.own
   have hpl : (P0 ++ [x]).length = P0.length + 1 := by simp
   rw [hpl] at hac hv
   subst hv
   have hown : wr.ownsRow w0.heap.size 35 1 (.slice A (P0.length + 1) c) (P0.length + 1) (P0.map Pend.v ++ [x.v]) := by
    have := h.own
    rwa [hpl, List.map_append] at this
   obtain ⟨ab, rfl, hx⟩ := acQ7 (k := P0.length) (u := x.v) hown (by rw [List.getElem?_append_right (by simp)]; simp)
   have hpop := aqQ0 hown rfl
   have hX := h.pend x (by simp)
   have hx0l := hX.ne
   obtain ⟨xb, xo, t0, hxp, hxS, hx0, hxL⟩ := hX.args 0 (x.ds[0]'hx0l) (List.getElem?_eq_getElem hx0l)
   obtain ⟨ds, p, cx⟩ := x
   injection hxp with hxp
   simp only at hxp
   subst hxp
   simp only at hxS hx0 hxL
   have plain : ∀ b, SE S w0 b → Plain wr b := fun b hb => by obtain ⟨cs, hc⟩ := h.clean b hb; exact ⟨cs, _, hc⟩
   have hM := look_ptr wr _ m h.map (fun q hq => plain _ (h.keys q hq)) ⟨xb, xo, none⟩ (plain _ hxS)
   obtain ⟨n, hn⟩ : ∃ n : Nat, getM m ⟨xb, xo, none⟩ = n := ⟨(getM m ⟨xb, xo, none⟩).toNat, by have := h.nonneg ⟨xb, xo, none⟩; omega⟩
   rw [hn] at hM
   have hne : 0 < ds.length := hX.ne
   have hcap : ds.length ≤ cx := hX.cap
   have hcap' : cx ≤ maxLen := hX.cap'
   have hk : P0.length ≤ pendM P0 := by
    have : ∀ P : List Pend, (∀ x ∈ P, 0 < x.ds.length) → P.length ≤ pendM P := by
     intro P
     induction P with
     | nil => intro _; simp
     | cons y r ih =>
       intro hy
       have h1 := hy y (by simp)
       have h2 := ih fun z hz => hy z (by simp [hz])
       have h3 := abQ7 y.ds
       simp only [List.length_cons, pendM]
       omega
    exact this P0 fun y hy => (h.pend y (by simp [hy])).ne
   have hcount := h.count
   rw [abQ4] at hcount
   simp only [pendM] at hcount
   have hda := abQ7 ds
   have hsz : P0.length < 4194304 := by omega
   have hsd : ds.length ≤ 4194304 := by omega
   unfold maxLen at hc hcap'
   simp only [Pend.v] at hx
   rw [abQ4] at HN
   by_cases hge : ds.length ≤ n
   ·have E := hQQ (h.skip (x := ⟨ds, ⟨xb, xo, none⟩, cx⟩) hpop rfl (by show (ds.length : Int) ≤ getM m ⟨xb, xo, none⟩; rw [hn]; omega))
    have t1 : (ds.length : Int) ≤ (n : Int) := by omega
    have HL : Hid (pendM P0 < aiQi (JE d S w0 F0 Q bad (.slice (some ⟨ab, 0, none⟩) (P0.length + 1) c) wr)) := by
     show _ < _
     rw [← HN.out]
     simp only [pendM]; omega
    clear h hown hpop hX hxS hx0 hxL plain hn hcount HLE HN hk
    go_wp2_with fail
    go_roundw
    case rel => exact ⟨_, P0, m, l, F, rfl, E.out⟩
    case measure => exact Nat.lt_of_le_of_lt ((agQo ⟨_, P0, m, l, F, rfl, E.out⟩).2 _ ⟨P0, m, l, F, rfl, E.out⟩) HL.out
   ·have hlt : n < ds.length := by omega
    obtain ⟨w2, hput, hM2, hT2⟩ := put_ptr wr _ m h.map (fun q hq => plain _ (h.keys q hq)) ⟨xb, xo, none⟩ (plain _ hxS) (ds.length : Int)
    have E := hQQ (h.start (x := ⟨ds, ⟨xb, xo, none⟩, cx⟩) HS.out hpop rfl hn hlt hxS hM2 hT2)
    have HX := hQQ (show aiQn wr (SE S w0) d ⟨ds, ⟨xb, xo, none⟩, cx⟩ from hX)
    have HL : Hid (aaQk ds + pendM P0 = aiQi (JE d S w0 F0 Q bad (.slice (some ⟨ab, 0, none⟩) (P0.length + 1) c) wr)) := by
     show _ = _
     rw [← HN.out]
     simp only [pendM]; omega
    have t1 : ¬ (ds.length : Int) ≤ (n : Int) := by omega
    have t2 : (n : Int) ≤ (cx : Int) := by omega
    have t3 : ¬ (cx : Int) ≤ (n : Int) := by omega
    clear hown hpop hx0 hxL plain hn hcount HLE HN hk hM2 hge hda
    have HAX := hQQ (hX.args.stay (fun _ h => h) (StayS.turned hT2 (fun b hb hg => h.mbS ((List.mem_singleton.1 hg) ▸ hb))))
    clear h
    go_wp2_with fail
    have hr1 : ds.length - n ≤ ds.length := by omega
    have hr2 : n + (ds.length - n) ≤ ds.length := by omega
    have hr3 : ds.length ≤ n + (ds.length - n) := by omega
    have hr4 : 0 < ds.length - n := by omega
    have hq1 : cx - n ≤ cx := by omega
    have hq2 : ds.length - n ≤ cx - n := by omega
    generalize ds.length - n = r at *
    generalize cx - n = cq at *
    go_loopw [5, 45] (fun v i wx => ∃ (j : Nat) (P : List Pend) (l : List Dep) (F : List Nat), i = .int .i64 (j : Int) ∧ j ≤ r ∧ pendM P + aaQk (ds.drop (n + j)) + j ≤ pendM P0 + aaQk ds ∧
     Hid (ESt d (SE S w0) ⟨w0.heap.size + 1 + 1, 0, none⟩ w0 F0 Q bad (w0.heap.size + 1) wx v P (putM m ⟨xb, xo, none⟩ (ds.length : Int)) l F (some (⟨xb, xo, none⟩, n + j)) (aaQk (ds.drop (n + j)))) ∧ Hid (ArgsAt wx (SE S w0) ds (some ⟨xb, xo, none⟩))) (fun v i wx => r - (intOf i).toNat)
    case atStart =>
     refine ⟨0, P0, l, F, rfl, Nat.zero_le _, ?_, E, HAX⟩
     have : aaQk (ds.drop (n + 0)) ≤ aaQk ds := by
      conv => rhs; rw [← List.take_append_drop (n + 0) ds, abQm]
      omega
     omega
    case round =>
     obtain ⟨j, P, l, F, rfl, hj, hcnt, E, HA⟩ := hrel
     obtain ⟨A5, c5, hv5, hl5, hc5⟩ := aaQc E.out.own
     subst hv5
     have hPl := E.out.len
     have hdrop : ∀ a, ds[n + j]? = some a → aaQk (ds.drop (n + j)) = 1 + aaQk a.args + aaQk (ds.drop (n + (j + 1))) := fun a ha => by
      have hlt := (List.getElem?_eq_some_iff.1 ha).1
      rw [List.getElem?_eq_getElem hlt] at ha
      injection ha with ha
      rw [List.drop_eq_getElem_cons hlt, ha]
      simp only [aaQk]
      rw [abQ1 a]
      rfl
     have HDr := hQQ hdrop
     clear hdrop
     by_cases hjr : j < r
     ·have hnj : n + j < ds.length := by omega
      obtain ⟨b', o', t, he, hS1, hC1, hL1⟩ := HA.out (n + j) ds[n + j] (List.getElem?_eq_getElem hnj)
      injection he with he
      injection he with e1 e2
      subst e1; subst e2
      have ha : ds[n + j]? = some ds[n + j] := List.getElem?_eq_getElem hnj
      have hpart : ds[n + j] ∈ abQr d := HX.out.part _ (List.getElem_mem hnj) _ (afQ4 _)
      have hmem : ds[n + j] ∈ ds := List.getElem_mem hnj
      generalize ds[n + j] = a at *
      obtain ⟨A1, cc1, rfl, hl1, hcc1⟩ := hL1.form_
      have HC1 := hQQ hC1
      have HL1 := hQQ hL1
      rw [show xo + (n + j) * 5 = xo + n * 5 + j * 5 by omega] at hC1
      obtain ⟨c0, c1, c2, c3, c4⟩ := hC1
      have hb1 : Below wr.heap.size wr (wr.alloc (.cells (rowD a (.slice A1 a.args.length cc1)) 39)) := (Below.refl _ _).alloc (Nat.le_refl _) _
      have E1 := E.out.below HS.out hb1
      have hlN : l.length < N := by
       have := E.out.count
       rw [List.drop_eq_getElem_cons hnj] at this
       simp only [aaQk] at this
       have := akQy ds[n + j]
       omega
      have C := hQQ (HS.out.call (SE S w0) l F _ a (.slice A1 a.args.length cc1) E1.q (hL1.stay (fun _ h => h) (StayS.below' hb1)) hpart hlN E1.old E1.tabs)
      have H1 := hQQ E1
      unfold rowD at C H1
      have HAa := hQQ ha
      have hold := E.out.old
      clear hL1 ha hb1 E1
      go_wp2_with fail
      refine C.out.mono ?_
      rintro e w3 ⟨F', hT3, hFr3, hF3, h3⟩
      have hst3 : StayS (SE S w0) wr w3 := StayS.trans (StayS.below' ((Below.refl _ _).alloc (Nat.le_refl _) _)) (StayS.turned hT3 fun b hb hg => H1.out.sF b hg hb) (by simp)
      have K3 := (Blk.new wr 39 #[.int .i64 a.kind, .string a.name, .int .i64 a.op, .string a.evr, .slice A1 a.args.length cc1]).turned hT3 (fun hm => by have := hold _ hm; omega)
      have k4 : w3.cell? ⟨wr.heap.size, 4, none⟩ = some (.slice A1 a.args.length cc1) := K3.cell 4
      have HA3 := hQQ (HA.out.stay (fun _ h => h) hst3)
      have HC3 := hQQ (HC1.out.stay (hst3 _ hS1 HC1.out.lt))
      have HL3 := hQQ (HL1.out.stay (S' := SE S w0) (fun _ h => h) hst3)
      rcases h3 with ⟨hbad, rfl, hQ3⟩ | ⟨hbad, rfl⟩
      ·have E3 := hQQ (H1.out.seen (x := ⟨ds, ⟨xb, xo, none⟩, cx⟩) (n := n + j) (a := a) (w1 := w3) (v' := .slice A5 P.length c5) (P' := P) HAa.out hpart hbad rfl hS1 (HC1.out.stay (Below.heap_alloc _ _ _ HC1.out.lt)) (HL1.out.stay (fun _ h => h) (StayS.below' ((Below.refl _ _).alloc (Nat.le_refl _) _))) HS.out hT3 hFr3 hF3 hQ3 hT3.size)
       clear hT3 hFr3 hF3 hQ3 C H1 K3 hold hst3
       by_cases h0 : a.args = []
       ·have E4 := hQQ (E3.out.step0 (n := n + j) rfl (by simp) hS1 HC3.out HL3.out h0)
        have hDr := HDr.out a HAa.out
        have hz : aaQk a.args = 0 := by rw [h0]; rfl
        have hl0 : a.args.length = 0 := by rw [h0]; rfl
        rw [hl0] at k4
        clear E3 h0 hl0
        go_wp2_with fail
        go_roundw
        case rel => exact ⟨j + 1, P, l ++ [a], F', by go_num, by omega, by omega, E4, HA3⟩
        case measure => simp [intOf]; omega
       ·have hlen0 : 0 < a.args.length := List.length_pos_iff.2 h0
        obtain ⟨Aq, cq', hq0, _, _, hAq⟩ := HL3.out.args_
        injection hq0 with hq1 hq2 hq3
        subst hq1; subst hq3
        obtain ⟨qb, qo, qt, rfl, hqS, _, _⟩ := hAq 0 (a.args[0]'hlen0) (List.getElem?_eq_getElem hlen0)
        have PO : Hid (aiQn (w3.alloc (.cells #[.slice (some ⟨qb, qo, none⟩) a.args.length cc1] 35)) (SE S w0) d ⟨a.args, ⟨qb, qo, none⟩, cc1⟩) :=
         ⟨hlen0, hAq.stay (fun _ h => h) (StayS.below' ((Below.refl _ _).alloc (Nat.le_refl _) _)), hl1, hcc1, fun b hb y hy => HX.out.part a hmem y (mem_partsOf.2 (.inr ⟨b, hb, hy⟩))⟩
        have hba : Below w3.heap.size w3 (w3.alloc (.cells #[.slice (some ⟨qb, qo, none⟩) a.args.length cc1] 35)) := (Below.refl _ _).alloc (Nat.le_refl _) _
        have E4 := hQQ (E3.out.below HS.out hba)
        have HC4 := hQQ (HC3.out.stay (hba.block _ HC3.out.lt))
        have HL4 := hQQ (HL3.out.stay (S' := SE S w0) (fun _ h => h) (StayS.below' hba))
        have HA4 := hQQ (HA3.out.stay (fun _ h => h) (StayS.below' hba))
        have hDr := HDr.out a HAa.out
        have O3 := hQQ E3.out.own
        have hbase3 := E3.out.own
        obtain ⟨i0, hi0, hz0, hz1, hz2⟩ := apQm
        have hi := hQQ hi0
        have hzz := hQQ hz0
        have hz1' := hQQ hz1
        have hz2' := hQQ hz2
        have hge3 := hQQ (E3.out.turned.size)
        have tl : ¬ ((a.args.length : Int) ≤ 0) := by omega
        have tl' : (0 : Int) < (a.args.length : Int) := by omega
        clear E3 h0 hqS hAq hba hz0 hz1 hz2 hi0 hq2 hbase3 HC3 HL3 HA3
        go_wp2_with (at_builtin; refine wpList_append_own_at _ rfl (.tmp 56) (.tmp 59) 96 rfl w0.heap.size 35 i0 (.slice none 0 0) 1 24 Tryz.underlying96 hi.out hzz.out hz1'.out hz2'.out rfl (by decide) (.slice A5 P.length c5) P.length (P.map Pend.v) rfl (O3.out.alloc _) ⟨w3.heap.size, 0, none⟩ 1 1 [.slice (some ⟨qb, qo, none⟩) a.args.length cc1] rfl rfl (cell_one_new _ _ _) (fun u hu => by simp at hu; subst hu; rfl) (by unfold maxLen; omega) (by omega) (by have := hge3.out; rw [World.size_alloc]; omega) ?_; intro v4 w4 hown4 hg4 hnil4 hat4; have E5 := hQQ (E4.out.step1 (x := ⟨ds, ⟨xb, xo, none⟩, cx⟩) (n := n + j) (a := a) (y := ⟨a.args, ⟨qb, qo, none⟩, cc1⟩) rfl (by simp) hS1 HC4.out HL4.out PO.out rfl rfl HS.out hown4 hg4 hat4); have HA5 := hQQ (HA4.out.stay (fun _ h => h) (E4.out.grow hg4)); clear hown4 hg4 hnil4 hat4)
        go_roundw
        case rel => exact ⟨j + 1, P ++ [⟨a.args, ⟨qb, qo, none⟩, cc1⟩], l ++ [a], F', by go_num, by omega, by rw [abQ4]; simp only [pendM]; omega, E5, HA5⟩
        case measure => simp [intOf]; omega
      ·have HP : Hid (aoQc d w0 F0 Q bad (abQf 50) w3) := ⟨F', H1.out.turned.trans hT3 H1.out.fresh, H1.out.fresh.trans H1.out.turned.size hFr3, hF3, .inr ⟨rfl, a, hpart, hbad⟩⟩
       unfold abQf at HP ⊢
       clear hT3 hFr3 hF3 C H1 K3 hold hst3 k4
       go_wp2_with fail
       exact ⟨rfl, HP.out⟩
     ·have hjr' : j = r := by omega
      subst hjr'
      have hnr : n + j = ds.length := by omega
      have E6 := hQQ (ESt.closed (x := ⟨ds, ⟨xb, xo, none⟩, cx⟩) (by have := E.out; rwa [hnr] at this) (by show getM _ ⟨xb, xo, none⟩ = _; rw [agQq, if_pos rfl]))
      clear HA HDr E
      go_wp2_with fail
      go_roundw
      case rel => exact ⟨_, P, _, l, F, rfl, E6.out⟩
      case measure => exact Nat.lt_of_le_of_lt ((agQo ⟨_, P, _, l, F, rfl, E6.out⟩).2 _ ⟨P, _, l, F, rfl, E6.out⟩) (by rw [← HL.out]; omega)
end Go.Proofs.YtdhgiammfpjniaaGreatDoor.Ev
