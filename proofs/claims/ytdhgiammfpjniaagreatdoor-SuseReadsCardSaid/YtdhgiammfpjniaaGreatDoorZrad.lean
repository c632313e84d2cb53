/- Parts of the proof. -/
import Derived.Deep.RegionHeld
import Derived.StillTail
import Derived.Test.YtdhgiammfpjniaaGreatDoorZraa
import Derived.Test.YtdhgiammfpjniaaGreatDoorZrac
import Derived.Lib.Bytealg
import Derived.Lib.LastIndexByte
import Derived.Lib.TrimByte
import Derived.Lib.Small
namespace Go.Proofs.YtdhgiammfpjniaaGreatDoor
set_option linter.unusedSimpArgs false
set_option linter.unusedVariables false
open Go
section
variable {P : Program} {ops : Array Oper} {Q : Exit → Act → World → Prop} {md : Region.Mode} {S : Array Bool → World → Prop}
def acQb (P : Program) (md : Region.Mode) (ops : Array Oper) (Q : Exit → Act → World → Prop) (S : Array Bool → World → Prop) : Nat → Array Bool → Act → World → Prop
 | 0, listed, a, w => Region.ready md ops listed = [] ∧ Q .normal a w
 | fuel + 1, listed, a, w =>
   (Region.ready md ops listed = [] → Q .normal a w) ∧
   ∀ i ∈ Region.ready md ops listed, wpOp P ops Q i (fun a' w' => S (listed.setIfInBounds i true) w' ∧ acQb P md ops Q S fuel (listed.setIfInBounds i true) a' w') a w
theorem ahQ4 : ∀ (fuel : Nat) (listed : Array Bool) (a : Act) (w : World), acQb P md ops Q S fuel listed a w → wpAny P md ops Q fuel listed a w
 | 0, _, _, _, h => h
 | fuel + 1, _, _, _, h => ⟨h.1, fun i hi => wpOp_mono (fun a' w' h' => ahQ4 fuel _ a' w' h'.2) (h.2 i hi)⟩
theorem afQ2 {S' : World → Prop} {i : Nat} {oi : Oper} {v : Value} (hi : ops[i]? = some oi) (hsel : ∀ (j : Nat) (o : Oper) cs b, ops[j]? = some o → o.op ≠ .select cs b)
 (hQ : ∀ c a w, Q (.panic c) (a.put oi.dst v) w → Q (.panic c) a w)
 (hin : ∀ l w, (∀ k, Region.waitsFor md ops k i = true → l.getD k true = false) → S l w → S' w)
 (hio : ∀ l w, S (l.setIfInBounds i true) w ↔ S l w) :
 ∀ (fuel : Nat) (listed : Array Bool) (a : Act) (w : World),
   (∀ j oj, ops[j]? = some oj → j ≠ i → listed.getD j true = false → (∀ e ∈ oj.after, Region.binds md e = true → e.on ≠ i) → oi.apart ops oj = true) →
   (∀ k, Region.waitsFor md ops k i = true → listed.getD k true = false) →
   i ∈ Region.ready md ops listed → YieldsIf P ops S' oi v a → S listed w →
   acQb P md ops Q S fuel (listed.setIfInBounds i true) (a.put oi.dst v) w → acQb P md ops Q S (fuel + 1) listed a w := by
 intro fuel
 induction fuel with
 | zero =>
   intro listed a w _ hwt hr hy hS H
   refine ⟨fun h => (by rw [h] at hr; cases hr), fun j hj => ?_⟩
   by_cases hji : j = i
   ·subst hji
    exact hy.wpOp hi (hin _ _ hwt hS) ⟨(hio _ _).2 hS, H⟩
   ·have := ready_mono hj hji
    rw [H.1] at this
    cases this
 | succ fuel ih =>
   intro listed a w hfree hwt hr hy hS H
   refine ⟨fun h => (by rw [h] at hr; cases hr), fun j hj => ?_⟩
   by_cases hji : j = i
   ·subst hji; exact hy.wpOp hi (hin _ _ hwt hS) ⟨(hio _ _).2 hS, H⟩
   ·have h1 := H.2 j (ready_mono hj hji)
    obtain ⟨hjun, oj, hoj, hall⟩ := mem_ready.1 hj
    have hnot : ∀ e ∈ oj.after, Region.binds md e = true → e.on ≠ i := fun e he hb heq => by
     have h1 := hall e he hb
     have h0 := (mem_ready.1 hr).1
     rw [heq] at h1
     rcases Nat.lt_or_ge i listed.size with h' | h'
     ·simp [h'] at h0 h1; rw [h0] at h1; cases h1
     ·simp [Array.getElem?_eq_none h'] at h1
    have h2 := wpOp_putIf hoj (hfree j oj hoj hji hjun hnot) (fun cs b => hsel i oi cs b hi) (fun cs b => hsel j oj cs b hoj) hQ hy h1
    have hfree' : ∀ k ok, ops[k]? = some ok → k ≠ i → (listed.setIfInBounds j true).getD k true = false →
     (∀ e ∈ ok.after, Region.binds md e = true → e.on ≠ i) → oi.apart ops ok = true := fun k ok hk hki hun hno => by
     refine hfree k ok hk hki ?_ hno
     by_cases hjk : j = k
     ·subst hjk; exact hjun
     ·rw [getD_set_ne true hjk] at hun; exact hun
    have hwt' : ∀ k, Region.waitsFor md ops k i = true → (listed.setIfInBounds j true).getD k true = false := fun k hk => by
     have hjk : j ≠ k := by
      rintro rfl
      obtain ⟨o', ho', e, he, hb, hon⟩ := Region.waitsFor_spec hk
      have : o' = oj := Option.some.inj (ho'.symm.trans hoj)
      subst this
      exact hnot e he hb hon
     rw [getD_set_ne true hjk]; exact hwt k hk
    refine wpOp_mono (fun a' w' h3 => ?_) h2
    obtain ⟨hy', hS', H'⟩ := h3
    rw [Array.setIfInBounds_comm _ _ (Ne.symm hji)] at hS'
    have hS2 := (hio _ _).1 hS'
    refine ⟨hS2, ih (listed.setIfInBounds j true) a' w' hfree' hwt' (ready_mono hr (Ne.symm hji)) hy' hS2 ?_⟩
    rw [Array.setIfInBounds_comm _ _ hji]
    exact H'
theorem aaQa (S' : World → Prop) {i : Nat} {oi : Oper} {v : Value} {fuel : Nat} {listed : Array Bool} {a : Act} {w : World} (hi : ops[i]? = some oi)
 (hs : Region.noSelect ops = true) (hf : Region.free md ops listed i = true) (hr : (Region.ready md ops listed).contains i = true)
 (hQ : ∀ c a w, Q (.panic c) (a.put oi.dst v) w → Q (.panic c) a w)
 (hin : ∀ l w, (∀ k, Region.waitsFor md ops k i = true → l.getD k true = false) → S l w → S' w)
 (hio : ∀ l w, S (l.setIfInBounds i true) w ↔ S l w)
 (hwt : ((List.range ops.size).all fun k => !Region.waitsFor md ops k i || !listed.getD k true) = true)
 (hS : S listed w) (hy : ∀ w, S' w → (execOp a.eval oi).run P w = .ok (.value v) w) (hw : Region.wanted oi (yielded ops a.tmps) = true)
 (h : S (listed.setIfInBounds i true) w → acQb P md ops Q S fuel (listed.setIfInBounds i true) (a.put oi.dst v) w) : acQb P md ops Q S (fuel + 1) listed a w := by
 refine afQ2 (S' := S') hi (Region.noSelect_spec hs) hQ hin hio fuel listed a w (Region.free_spec hi hf) (fun k hk => ?_) (by simpa using hr) (.inl ⟨hw, hy⟩) hS (h ((hio _ _).2 hS))
 obtain ⟨o', ho', _⟩ := Region.waitsFor_spec hk
 have h1 := List.all_eq_true.1 hwt k (List.mem_range.2 (Array.getElem?_eq_some_iff.1 ho').1)
 rw [hk] at h1
 simpa using h1
theorem aaQb {i : Nat} {o : Oper} {fuel : Nat} {listed : Array Bool} {a : Act} {w : World} (hr : Region.ready md ops listed = [i]) (ho : ops[i]? = some o)
 (h : ∀ K' : Act → World → Prop, Shut (∀ a w, S (listed.setIfInBounds i true) w → (S (listed.setIfInBounds i true) w → acQb P md ops Q S fuel (listed.setIfInBounds i true) a w) → K' a w) →
  if Region.wanted o (yielded ops a.tmps) = true then Oper.wp P o a w K' Q else K' (a.put o.dst undef) w) : acQb P md ops Q S (fuel + 1) listed a w := by
 refine ⟨fun h0 => (by rw [hr] at h0; cases h0), fun j hj => ?_⟩
 rw [hr] at hj
 have : j = i := by simpa using hj
 subst this
 exact wpOp_step ho (fun K' hK => h K' (fun a w hS hW => hK a w ⟨hS, hW hS⟩))
theorem aaQh {listed : Array Bool} {a : Act} {w : World} (hr : Region.ready md ops listed = []) (h : Q .normal a w) : ∀ fuel, acQb P md ops Q S fuel listed a w
 | 0 => ⟨hr, h⟩
 | _ + 1 => ⟨fun _ => h, by rw [hr]; simp⟩
theorem aaQu {id : Nat} {a : Act} {w : World} (S : Array Bool → World → Prop) (hm : P.follows .mixedOrders = true) (hS : S (Array.replicate ops.size false) w.drew)
 (h : S (Array.replicate ops.size false) w.drew → acQb P .any ops Q S ops.size (Array.replicate ops.size false) a w.drew) : (Code.region id ops true).wp P Q a w :=
 wp_region_any hm (ahQ4 _ _ _ _ (h hS))
end
def Till (L : List (Nat × Addr × Value)) (l : Array Bool) (w : World) : Prop := ∀ x, x ∈ L → l.getD x.1 true = false → w.cell? x.2.1 = some x.2.2
theorem Till.out {L : List (Nat × Addr × Value)} {l : Array Bool} {w : World} (h : Till L l w) {k : Nat} {p : Addr} {v : Value} (hx : (k, p, v) ∈ L) (hk : l.getD k true = false) : w.cell? p = some v := h _ hx hk
theorem Till.io {L : List (Nat × Addr × Value)} {i : Nat} (h : (L.all fun x => x.1 != i) = true) (l : Array Bool) (w : World) : Till L (l.setIfInBounds i true) w ↔ Till L l w := by
 have e : ∀ x, x ∈ L → (l.setIfInBounds i true).getD x.1 true = l.getD x.1 true := fun x hx => by
  have h1 := List.all_eq_true.1 h x hx
  exact getD_set_ne true (fun e => by subst e; simp at h1)
 constructor
 ·intro h x hx hk; exact h x hx ((e x hx).trans hk)
 ·intro h x hx hk; exact h x hx ((e x hx).symm.trans hk)
section
variable {P : Program} {ops : Array Oper} {Q : Exit → Act → World → Prop} {md : Region.Mode} {S : Array Bool → World → Prop}
theorem abQx {i j : Nat} {oi oj : Oper} {fuel : Nat} {listed : Array Bool} {a : Act} {w : World} (hr : Region.ready md ops listed = [i, j]) (hi : ops[i]? = some oi) (hj : ops[j]? = some oj)
 (h1 : ∀ K' : Act → World → Prop, Shut (∀ a w, S (listed.setIfInBounds i true) w → (S (listed.setIfInBounds i true) w → acQb P md ops Q S fuel (listed.setIfInBounds i true) a w) → K' a w) →
  if Region.wanted oi (yielded ops a.tmps) = true then Oper.wp P oi a w K' Q else K' (a.put oi.dst undef) w)
 (h2 : ∀ K' : Act → World → Prop, Shut (∀ a w, S (listed.setIfInBounds j true) w → (S (listed.setIfInBounds j true) w → acQb P md ops Q S fuel (listed.setIfInBounds j true) a w) → K' a w) →
  if Region.wanted oj (yielded ops a.tmps) = true then Oper.wp P oj a w K' Q else K' (a.put oj.dst undef) w) : acQb P md ops Q S (fuel + 1) listed a w := by
 refine ⟨fun h0 => (by rw [hr] at h0; cases h0), fun k hk => ?_⟩
 rw [hr] at hk
 have : k = i ∨ k = j := by simpa using hk
 rcases this with rfl | rfl
 ·exact wpOp_step hi (fun K' hK => h1 K' (fun a w hS hW => hK a w ⟨hS, hW hS⟩))
 ·exact wpOp_step hj (fun K' hK => h2 K' (fun a w hS hW => hK a w ⟨hS, hW hS⟩))
end
end Go.Proofs.YtdhgiammfpjniaaGreatDoor

namespace Go.Proofs.YtdhgiammfpjniaaGreatDoor
set_option linter.unusedSimpArgs false
set_option linter.unusedVariables false
open Go.RowKit
structure Rl where
 nm : Bs
 op : Int
 ev : Bs
 ok : Bool
end Go.Proofs.YtdhgiammfpjniaaGreatDoor

namespace Go.Proofs.YtdhgiammfpjniaaGreatDoor.Ev
set_option linter.unusedSimpArgs false
set_option linter.unusedVariables false
def thenC (x y : Int) : Int := if x = 0 then y else x
section
variable {α β : Type} {c d : α → α → Int}
end
def isDg (c : UInt8) : Bool := decide (48 ≤ c.toNat) && decide (c.toNat ≤ 57)
def isLt (c : UInt8) : Bool := decide (97 ≤ c.toNat) && decide (c.toNat ≤ 122) || decide (65 ≤ c.toNat) && decide (c.toNat ≤ 90)
def isMay (c : UInt8) : Bool := isDg c || isLt c || decide (c ∈ [46, 95, 43, 126, 94, 45, 58])
section
variable (T : List UInt8 → List UInt8 → Int) (R : List UInt8 → List UInt8)
def alQ3 : Nat → List UInt8 → List UInt8 → Int
 | 0, _, _ => 0
 | n + 1, a, b => thenC (T a b) (alQ3 n (R a) (R b))
variable {T R}
end
structure Parts where
 e : List UInt8
 v : List UInt8
 r : List UInt8
def cutAt (c : UInt8) (l : List UInt8) : Option (List UInt8 × List UInt8) := if c ∈ l then some (l.takeWhile (· != c), (l.dropWhile (· != c)).tail) else none
def afQ1 (c : UInt8) (l : List UInt8) : Option (List UInt8 × List UInt8) := (cutAt c l.reverse).map fun p => (p.2.reverse, p.1.reverse)
def vr (e l : List UInt8) : Option Parts :=
 if 58 ∈ l then none else
 match afQ1 45 l with
 | some (v, r) => if v = [] ∨ r = [] then none else some ⟨e, v, r⟩
 | none => if l = [] then none else some ⟨e, l, []⟩
def parse (l : List UInt8) : Option Parts :=
 if l.length ≤ 60 ∧ l.all isMay = true then
  match cutAt 58 l with
  | some (e, t) => if e ≠ [] ∧ e.length ≤ 9 ∧ e.all isDg = true then vr e t else none
  | none => vr [] l
 else none
end Go.Proofs.YtdhgiammfpjniaaGreatDoor.Ev

namespace Go.Proofs.YtdhgiammfpjniaaGreatDoor.Ev
set_option linter.unusedSimpArgs false
set_option linter.unusedVariables false
open Go.Lib
theorem anQ0 {l : List UInt8} {c : UInt8} (h : c ∉ l) : indexByte l c = -1 := by
 induction l with
 | nil => rfl
 | cons b l ih =>
   simp only [List.mem_cons, not_or] at h
   unfold indexByte
   rw [ih h.2]
   have : (b == c) = false := beq_eq_false_iff_ne.2 fun e => h.1 e.symm
   simp [this]
theorem aeQa {l : List UInt8} {c : UInt8} (h : c ∈ l) : indexByte l c = (l.takeWhile (· != c)).length := by
 induction l with
 | nil => cases h
 | cons b l ih =>
   unfold indexByte
   by_cases hb : b = c
   ·subst hb; simp
   ·have h2 : c ∈ l := by
     rcases List.mem_cons.1 h with h | h
     ·exact absurd h.symm hb
     ·exact h
    have hne : (b == c) = false := beq_eq_false_iff_ne.2 hb
    have hn : (b != c) = true := by simp [hb]
    rw [ih h2, hne, List.takeWhile_cons, hn]
    have : ((((l.takeWhile (· != c)).length : Nat) : Int) == -1) = false := by simp
    rw [this]
    simp
theorem aiQv {p : UInt8 → Bool} (l : List UInt8) : l.takeWhile p = l.take (l.takeWhile p).length := by
 induction l with
 | nil => rfl
 | cons b l ih =>
   rw [List.takeWhile_cons]
   split
   ·simp [← ih]
   ·simp
theorem afQb {p : UInt8 → Bool} (l : List UInt8) : l.dropWhile p = l.drop (l.takeWhile p).length := by
 induction l with
 | nil => rfl
 | cons b l ih =>
   rw [List.takeWhile_cons, List.dropWhile_cons]
   split
   ·simp [← ih]
   ·simp
theorem agQg {l : List UInt8} {c : UInt8} (h : c ∈ l) : (l.takeWhile (· != c)).length < l.length := by
 induction l with
 | nil => cases h
 | cons b l ih =>
   rw [List.takeWhile_cons]
   split
   ·rename_i hb
    rcases List.mem_cons.1 h with h | h
    ·subst h; simp at hb
    ·simp [ih h]
   ·simp
theorem alQl {l : List UInt8} {c : UInt8} (h : c ∈ l) : cutAt c l = some (l.take (l.takeWhile (· != c)).length, l.drop ((l.takeWhile (· != c)).length + 1)) := by
 unfold cutAt
 rw [if_pos h, ← aiQv, afQb, List.tail_drop]
theorem anQ5 {l : List UInt8} {c : UInt8} (h : c ∉ l) : cutAt c l = none := by unfold cutAt; rw [if_neg h]
theorem anQ6 {l : List UInt8} {c : UInt8} {k : Nat} (hk : l[k]? = some c) (hn : ∀ j, j < k → l[j]? ≠ some c) : cutAt c l = some (l.take k, l.drop (k + 1)) := by
 have hm : c ∈ l := List.mem_of_getElem? hk
 rw [alQl hm]
 have : (l.takeWhile (· != c)).length = k := by
  induction l generalizing k with
  | nil => cases hm
  | cons b l ih =>
    cases k with
    | zero =>
      simp at hk; subst hk
      simp
    | succ k =>
      have hb : b ≠ c := by have := hn 0 (by omega); simpa using this
      have hb' : (b != c) = true := by simp [hb]
      rw [List.takeWhile_cons, hb']
      have hk' : l[k]? = some c := by simpa using hk
      have := ih hk' (fun j hj => by have := hn (j + 1) (by omega); simpa using this) (List.mem_of_getElem? hk')
      simp [this]
 rw [this]
theorem apQy {l : List UInt8} {c : UInt8} {k : Nat} (hk : l[k]? = some c) (hn : ∀ j, k < j → j < l.length → l[j]? ≠ some c) : afQ1 c l = some (l.take k, l.drop (k + 1)) := by
 have hlt : k < l.length := (List.getElem?_eq_some_iff.1 hk).1
 unfold afQ1
 rw [anQ6 (k := l.length - 1 - k)]
 ·simp only [Option.map_some, List.drop_reverse, List.take_reverse, List.reverse_reverse]
  rw [show l.length - (l.length - 1 - k + 1) = k by omega, show l.length - (l.length - 1 - k) = k + 1 by omega]
 ·rw [List.getElem?_reverse (by omega), show l.length - 1 - (l.length - 1 - k) = k by omega]; exact hk
 ·intro j hj
  rw [List.getElem?_reverse (by omega)]
  exact hn _ (by omega) (by omega)
theorem apQx {l : List UInt8} {c : UInt8} (h : c ∉ l) : afQ1 c l = none := by
 unfold afQ1
 rw [anQ5 (by simpa using h)]
 rfl
theorem arQc {s : ByteArray} {c : UInt8} (h : c ∉ s.data.toList) : lastIndexByte s (c.toNat : Int) = -1 := by
 rcases lastIndexByte_spec s (c.toNat : Int) with ⟨e, _⟩ | ⟨i, hi, _, hc, _⟩
 ·exact e
 ·exfalso
  apply h
  have hi' : i < s.data.size := hi
  have : s.data[i]! = s.data[i] := getElem!_pos s.data i hi'
  rw [this] at hc
  have : s.data[i] = c := UInt8.toNat_inj.1 (by omega)
  rw [← this]
  exact Array.mem_toList_iff.2 (Array.getElem_mem hi')
theorem anQv {s : ByteArray} {c : UInt8} (h : c ∈ s.data.toList) : ∃ k : Nat, k < s.size ∧ lastIndexByte s (c.toNat : Int) = k ∧ s.data.toList[k]? = some c ∧ ∀ j, k < j → j < s.data.toList.length → s.data.toList[j]? ≠ some c := by
 rcases lastIndexByte_spec s (c.toNat : Int) with ⟨_, hn⟩ | ⟨i, hi, e, hc, hn⟩
 ·exfalso
  obtain ⟨i, hi⟩ := List.getElem?_of_mem h
  have hlt := (List.getElem?_eq_some_iff.1 hi).1
  have hi' : i < s.data.size := by simpa using hlt
  apply hn i hi'
  rw [getElem!_pos s.data i hi']
  rw [Array.getElem?_toList, Array.getElem?_eq_getElem hi'] at hi
  injection hi with hi
  rw [hi]
 ·refine ⟨i, hi, e, ?_, fun j h1 h2 => ?_⟩
  ·have hi' : i < s.data.size := hi
   rw [getElem!_pos s.data i hi'] at hc
   rw [Array.getElem?_toList, Array.getElem?_eq_getElem hi']
   congr 1
   exact UInt8.toNat_inj.1 (by omega)
  ·have hj : j < s.data.size := by simpa using h2
   have := hn j h1 hj
   rw [getElem!_pos s.data j hj] at this
   rw [Array.getElem?_toList, Array.getElem?_eq_getElem hj]
   intro h3
   injection h3 with h3
   rw [h3] at this
   exact this rfl
def mkS (l : List UInt8) : ByteArray := ⟨l.toArray⟩
theorem mkS_of {s : ByteArray} {l : List UInt8} (h : s.data.toList = l) : s = mkS l := by
 subst h; rfl
theorem ahQd {l : List UInt8} (h : ¬ (l.length ≤ 60 ∧ l.all isMay = true)) : parse l = none := by unfold parse; rw [if_neg h]
theorem ahQb {l : List UInt8} (h : l.length ≤ 60 ∧ l.all isMay = true) (hc : (58 : UInt8) ∉ l) : parse l = vr [] l := by
 unfold parse; rw [if_pos h, anQ5 hc]
theorem ahQc {l : List UInt8} (h : l.length ≤ 60 ∧ l.all isMay = true) (hc : (58 : UInt8) ∈ l) {k : Nat} (hk : k = (l.takeWhile (· != 58)).length) :
 parse l = if k ≠ 0 ∧ k ≤ 9 ∧ (l.take k).all isDg = true then vr (l.take k) (l.drop (k + 1)) else none := by
 have hlt := agQg hc
 subst hk
 unfold parse
 rw [if_pos h, alQl hc]
 simp only
 have e1 : (l.take (l.takeWhile (· != 58)).length ≠ []) ↔ (l.takeWhile (· != 58)).length ≠ 0 := by
  rw [← List.length_pos_iff, List.length_take]; omega
 have e2 : (l.take (l.takeWhile (· != 58)).length).length = (l.takeWhile (· != 58)).length := by rw [List.length_take]; omega
 by_cases hx : (l.takeWhile (· != 58)).length ≠ 0 ∧ (l.takeWhile (· != 58)).length ≤ 9 ∧ (l.take (l.takeWhile (· != 58)).length).all isDg = true
 ·rw [if_pos hx, if_pos ⟨e1.2 hx.1, by rw [e2]; exact hx.2.1, hx.2.2⟩]
 ·rw [if_neg hx, if_neg (fun hy => hx ⟨e1.1 hy.1, by rw [← e2]; exact hy.2.1, hy.2.2⟩)]
theorem adQl {e l : List UInt8} (h : (58 : UInt8) ∈ l) : vr e l = none := by unfold vr; rw [if_pos h]
theorem aeQg {e l : List UInt8} (h : (58 : UInt8) ∉ l) (hd : (45 : UInt8) ∉ l) : vr e l = if l = [] then none else some ⟨e, l, []⟩ := by
 unfold vr; rw [if_neg h, apQx hd]
theorem agQu {e l : List UInt8} (h : (58 : UInt8) ∉ l) {k : Nat} (hk : l[k]? = some (45 : UInt8)) (hn : ∀ j, k < j → j < l.length → l[j]? ≠ some (45 : UInt8)) :
 vr e l = if l.take k = [] ∨ l.drop (k + 1) = [] then none else some ⟨e, l.take k, l.drop (k + 1)⟩ := by
 unfold vr; rw [if_neg h, apQy hk hn]
theorem acQ3 {e l : List UInt8} {k : Nat} (hk : l[k]? = some (45 : UInt8)) (hn : ∀ j, k < j → j < l.length → l[j]? ≠ some (45 : UInt8)) (h : l.take k = [] ∨ l.drop (k + 1) = []) : vr e l = none := by
 by_cases hc : (58 : UInt8) ∈ l
 ·exact adQl hc
 ·rw [agQu hc hk hn, if_pos h]
theorem afQi {p : UInt8 → Bool} {l : List UInt8} (h : l.all p = true) : (l.takeWhile p).length = l.length := by
 induction l with
 | nil => rfl
 | cons b l ih =>
   simp only [List.all_cons, Bool.and_eq_true] at h
   rw [List.takeWhile_cons, h.1]; simp [ih h.2]
theorem aeQ2 {p : UInt8 → Bool} {l : List UInt8} (h : l.all p = false) : (l.takeWhile p).length < l.length := by
 induction l with
 | nil => cases h
 | cons b l ih =>
   rw [List.takeWhile_cons]
   cases hb : p b with
   | false => simp
   | true =>
     simp only [List.all_cons, hb, Bool.true_and] at h
     simp [ih h]
end Go.Proofs.YtdhgiammfpjniaaGreatDoor.Ev
