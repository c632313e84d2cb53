/- Parts of the proof. -/
import Derived.Test.YtdhgiammfpjniaaGreatDoorZrai
import Derived.LaidEqlPtr
namespace Go.Proofs.YtdhgiammfpjniaaGreatDoor.Ev
set_option linter.unusedSimpArgs false
set_option linter.unusedVariables false
open Go.RowKit
def PtrEs (w : World) (b : Nat) (m : List (Addr × Int)) : Prop :=
 ∃ es clock, w.heap[b]? = some (.map es clock) ∧ es.toList.map (fun x => (x.key, x.val)) = m.map fun p => (Value.pointer (some p.1), Value.int .i64 p.2)
def getM : List (Addr × Int) → Addr → Int
 | [], _ => 0
 | q :: r, p => if p = q.1 then q.2 else getM r p
def putM : List (Addr × Int) → Addr → Int → List (Addr × Int)
 | [], p, n => [(p, n)]
 | q :: r, p, n => if p = q.1 then (p, n) :: r else q :: putM r p n
theorem agQq (m : List (Addr × Int)) (p : Addr) (n : Int) (q : Addr) : getM (putM m p n) q = if q = p then n else getM m q := by
 induction m with
 | nil => simp [putM, getM]
 | cons x r ih =>
   unfold putM
   split
   ·rename_i h
    simp only [getM]
    split
    ·rfl
    ·rename_i hq
     rw [if_neg (by rw [← h]; exact hq)]
   ·rename_i h
    simp only [getM, ih]
    by_cases hq : q = x.1
    ·rw [if_pos hq, if_pos hq, if_neg (fun e : q = p => h (e.symm.trans hq))]
    ·rw [if_neg hq, if_neg hq]
theorem putM_mem {m : List (Addr × Int)} {p : Addr} {n : Int} {x : Addr × Int} (h : x ∈ putM m p n) : x ∈ m ∨ x = (p, n) := by
 induction m with
 | nil => simp [putM] at h; exact .inr h
 | cons y r ih =>
   unfold putM at h
   split at h
   ·rcases List.mem_cons.1 h with h | h
    ·exact .inr h
    ·exact .inl (by simp [h])
   ·rcases List.mem_cons.1 h with h | h
    ·exact .inl (by simp [h])
    ·rcases ih h with h | h
     ·exact .inl (by simp [h])
     ·exact .inr h
def Plain (w : World) (b : Nat) : Prop := ∃ cs t, w.heap[b]? = some (.cells cs t (0, 0))
theorem info_dep : ∃ j, Tryz.prog.info? 39 = some j ∧ j.size ≠ 0 := by
 have h : (Tryz.prog.info? 39).any (fun j => j.size != 0) = true := by kernel_rfl
 cases hj : Tryz.prog.info? 39 with
 | none => rw [hj] at h; cases h
 | some j => rw [hj] at h; exact ⟨j, rfl, by simpa using h⟩
theorem alQe (w : World) (a b : Addr) (ha : Plain w a.block) (hb : Plain w b.block) : (Op.equal 198 (.pointer (some a)) (.pointer (some b))).run Tryz.prog w = .ok (decide (a = b)) w := by
 obtain ⟨j, hj, hz⟩ := info_dep
 obtain ⟨ca, ta, ha⟩ := ha
 obtain ⟨cb, tb, hb⟩ := hb
 have hp := Tryz.underlying198
 by_cases h : a = b
 ·subst h
  have h : ∀ d : Nat, (Op.equalIn (d + 1) 198 (.pointer (some a)) (.pointer (some a))).run Tryz.prog w = .ok true w := fun d => by
   simp [Op.equalIn, run_underlying hp, sizeOf, typeInfo, hj, run_sameAddr_same]
  simp [Op.equal, Op.maxDepth, h 9999]
 ·have h' : ∀ d : Nat, (Op.equalIn (d + 1) 198 (.pointer (some a)) (.pointer (some b))).run Tryz.prog w = .ok false w := fun d => by
   simp [Op.equalIn, run_underlying hp, sizeOf, typeInfo, hj, hz, run_sameAddr_other w h ha hb]
  simp [Op.equal, Op.maxDepth, h' 9999, h]
theorem keys_of {es : List MapEntry} {m : List (Addr × Int)} (h : es.map (fun x => (x.key, x.val)) = m.map fun p => (Value.pointer (some p.1), Value.int .i64 p.2)) {x : MapEntry} {r : List MapEntry} (he : es = x :: r) :
 ∃ q t, m = q :: t ∧ x.key = .pointer (some q.1) ∧ x.val = .int .i64 q.2 ∧ r.map (fun x => (x.key, x.val)) = t.map fun p => (Value.pointer (some p.1), Value.int .i64 p.2) := by
 subst he
 cases m with
 | nil => simp at h
 | cons q t =>
   simp only [List.map_cons, List.cons.injEq, Prod.mk.injEq] at h
   exact ⟨q, t, rfl, h.1.1, h.1.2, h.2⟩
theorem ajQh (w : World) (p : Addr) (hp : Plain w p.block) : ∀ (es : List MapEntry) (m : List (Addr × Int)) (i : Nat), es.map (fun x => (x.key, x.val)) = m.map (fun p => (Value.pointer (some p.1), Value.int .i64 p.2)) → (∀ q ∈ m, Plain w q.1.block) →
 ((Instr.findAsking 198 (.pointer (some p)) es i).run Tryz.prog w = .ok none w ∧ getM m p = 0 ∧ putM m p = fun n => m ++ [(p, n)]) ∨
 ∃ j x, (Instr.findAsking 198 (.pointer (some p)) es i).run Tryz.prog w = .ok (some (i + j, .int .i64 (getM m p))) w ∧ es[j]? = some x ∧ x.key = .pointer (some p) ∧
   ∀ n : Int, (es.modify j fun e => { e with key := .pointer (some p), val := .int .i64 n }).map (fun x => (x.key, x.val)) = (putM m p n).map fun p => (Value.pointer (some p.1), Value.int .i64 p.2)
 | [], m, i, h, hm => by
   cases m with
   | nil => exact .inl ⟨by simp [Instr.findAsking], rfl, rfl⟩
   | cons q t => simp at h
 | x :: r, m, i, h, hm => by
   obtain ⟨q, t, rfl, hk, hv, hr⟩ := keys_of h rfl
   have he := alQe w p q.1 hp (hm q (by simp))
   by_cases hpq : p = q.1
   ·refine .inr ⟨0, x, ?_, rfl, by rw [hk, hpq], fun n => ?_⟩
    ·have he2 := alQe w q.1 q.1 (hm q (by simp)) (hm q (by simp))
     unfold Instr.findAsking
     simp [hk, he2, hpq, Result.andThen, hv, getM]
    ·simp [putM, hpq, hr]
   ·rcases ajQh w p hp r t (i + 1) hr (fun y hy => hm y (by simp [hy])) with ⟨h1, h2, h3⟩ | ⟨j, y, h1, h2, h3, h4⟩
    ·refine .inl ⟨?_, by simp only [getM, if_neg hpq, h2], ?_⟩
     ·unfold Instr.findAsking
      simp [hk, he, hpq, Result.andThen, h1]
     ·funext n
      simp only [putM, if_neg hpq, h3, List.cons_append]
    ·refine .inr ⟨j + 1, y, ?_, by simpa using h2, h3, fun n => ?_⟩
     ·unfold Instr.findAsking
      simp [hk, he, hpq, Result.andThen, h1, getM]
      omega
     ·simp only [List.modify_succ_cons, List.map_cons, putM, if_neg hpq, h4 n, hk, hv]
theorem adQt (w : World) (p : Addr) (es : List MapEntry) (r : Option (Nat × Value)) (h : (Instr.findAsking 198 (.pointer (some p)) es 0).run Tryz.prog w = .ok r w) : (Instr.findKey 198 (.pointer (some p)) es).run Tryz.prog w = .ok r w := by
 cases es with
 | nil =>
   simp [Instr.findAsking] at h
   subst h
   simp [Instr.findKey, run_underlying Tryz.underlying198, Instr.findNow, Result.andThen]
 | cons x t => simp [Instr.findKey, run_underlying Tryz.underlying198, Instr.findNow, Instr.sameNow, Result.andThen, h]
theorem afQd (w : World) (em : Bool) (p : Addr) : (Instr.checkKey em 10000 198 (.pointer (some p))).run Tryz.prog w = .ok () w := by
 unfold Instr.checkKey
 simp [run_underlying Tryz.underlying198, Result.andThen]
theorem look_ptr (w : World) (b : Nat) (m : List (Addr × Int)) (hM : PtrEs w b m) (hm : ∀ q ∈ m, Plain w q.1.block) (p : Addr) (hp : Plain w p.block) :
 (Instr.lookup 209 (.map (some b)) (.pointer (some p)) false).run Tryz.prog w = .ok (.int .i64 (getM m p)) w := by
 obtain ⟨es, clock, hb, he⟩ := hM
 rcases ajQh w p hp es.toList m 0 he hm with ⟨h1, h2, _⟩ | ⟨j, x, h1, _⟩
 ·have h3 := adQt w p _ _ h1
  rw [h2]
  simp [Instr.lookup, run_underlying Tryz.underlying209, Go.MapKept.run_getObj_map hb, afQd, h3, Tryz.zeroValue3, Result.andThen]
 ·have h3 := adQt w p _ _ h1
  simp [Instr.lookup, run_underlying Tryz.underlying209, Go.MapKept.run_getObj_map hb, afQd, h3, Result.andThen]
theorem put_ptr (w : World) (b : Nat) (m : List (Addr × Int)) (hM : PtrEs w b m) (hm : ∀ q ∈ m, Plain w q.1.block) (p : Addr) (hp : Plain w p.block) (n : Int) :
 ∃ w', (Instr.mapUpdate 209 (.map (some b)) (.pointer (some p)) (.int .i64 n)).run Tryz.prog w = .ok () w' ∧ PtrEs w' b (putM m p n) ∧ Turned [b] w w' := by
 obtain ⟨es, clock, hb, he⟩ := hM
 have hlt : b < w.heap.size := (Array.getElem?_eq_some_iff.1 hb).1
 have T : ∀ o, Turned [b] w { w with heap := w.heap.setIfInBounds b o } := fun o => ⟨rfl, rfl, rfl, by simp, fun k hk hn => by
  have : k ≠ b := by simpa using hn
  simp [Ne.symm this]⟩
 rcases ajQh w p hp es.toList m 0 he hm with ⟨h1, _, h4⟩ | ⟨j, x, h1, h2, h5, h4⟩
 ·have h3 := adQt w p _ _ h1
  refine ⟨_, by simp [Instr.mapUpdate, run_underlying Tryz.underlying209, Go.MapKept.run_getObj_map hb, afQd, h3, Go.MapKept.run_setObj_map _ hb, Result.andThen]; rfl, ⟨_, _, by simp [hlt]; exact ⟨rfl, rfl⟩, ?_⟩, T _⟩
  rw [h4]
  simp [he]
 ·have h3 := adQt w p _ _ h1
  have hx : es[j]? = some x := by simpa using h2
  refine ⟨_, by simp [Instr.mapUpdate, run_underlying Tryz.underlying209, Go.MapKept.run_getObj_map hb, afQd, h3, hx, h5, Instr.keyThatStays, Instr.sameBits, Go.MapKept.run_setObj_map _ hb, Result.andThen]; rfl, ⟨_, _, by simp [hlt]; exact ⟨rfl, rfl⟩, ?_⟩, T _⟩
  rw [← h4 n]
  simp
end Go.Proofs.YtdhgiammfpjniaaGreatDoor.Ev
namespace Go.Proofs.YtdhgiammfpjniaaGreatDoor.Ev
set_option linter.unusedSimpArgs false
set_option linter.unusedVariables false
open Go.RowKit
mutual
def abQr : Dep → List Dep
 | .mk k n o e ds => .mk k n o e ds :: akQt ds
def akQt : List Dep → List Dep
 | [] => []
 | a :: r => abQr a ++ akQt r
end
theorem apQd {ds : List Dep} {x : Dep} : x ∈ akQt ds ↔ ∃ a, a ∈ ds ∧ x ∈ abQr a := by
 induction ds with
 | nil => simp [akQt]
 | cons b r ih => simp [akQt, ih]
theorem mem_partsOf {d x : Dep} : x ∈ abQr d ↔ x = d ∨ ∃ a, a ∈ d.args ∧ x ∈ abQr a := by
 obtain ⟨k, n, o, e, ds⟩ := d
 simp only [abQr, Dep.args, List.mem_cons, apQd]
theorem afQ4 (d : Dep) : d ∈ abQr d := mem_partsOf.2 (.inl rfl)
theorem apQo (d : Dep) : form d = true ↔ ∀ x ∈ abQr d, mayPart x = true := by
 induction d using Dep.ind with
 | h k n o e ds ih =>
   simp only [form, Bool.and_eq_true]
   constructor
   ·rintro ⟨h1, h2⟩ x hx
    rcases mem_partsOf.1 hx with rfl | ⟨a, ha, hxa⟩
    ·exact h1
    ·exact (ih a ha).1 (acQ0 h2 a ha) x hxa
   ·intro h
    refine ⟨h _ (afQ4 _), forms_of fun a ha => (ih a ha).2 fun x hx => h x (mem_partsOf.2 (.inr ⟨a, ha, hx⟩))⟩
theorem alQq {w : World} {b o : Nat} {a a' : Dep} {t t' : Value} (h : CellsD w b o a t) (h' : CellsD w b o a' t') : a.kind = a'.kind ∧ a.name = a'.name ∧ a.op = a'.op ∧ a.evr = a'.evr ∧ t = t' := by
 obtain ⟨h0, h1, h2, h3, h4⟩ := h
 obtain ⟨g0, g1, g2, g3, g4⟩ := h'
 rw [h0] at g0; rw [h1] at g1; rw [h2] at g2; rw [h3] at g3; rw [h4] at g4
 injection g0 with g0; injection g0 with _ g0
 injection g1 with g1; injection g1 with g1
 injection g2 with g2; injection g2 with _ g2
 injection g3 with g3; injection g3 with g3
 injection g4 with g4
 exact ⟨g0, g1, g2, g3, g4⟩
theorem lay_det {w : World} {S S' : Nat → Prop} (a : Dep) : ∀ (a' : Dep) (t : Value), a.kind = a'.kind → a.name = a'.name → a.op = a'.op → a.evr = a'.evr → Lay w S a t → Lay w S' a' t → a = a' := by
 induction a using Dep.ind with
 | h k n o e ds ih =>
   intro a' t h1 h2 h3 h4 hL hL'
   obtain ⟨k', n', o', e', ds'⟩ := a'
   simp only [Dep.kind, Dep.name, Dep.op, Dep.evr] at h1 h2 h3 h4
   subst h1; subst h2; subst h3; subst h4
   obtain ⟨A, c, rfl, hl, hc, hA⟩ := hL.args_
   obtain ⟨A', c', he, hl', hc', hA'⟩ := hL'.args_
   simp only [Dep.args] at he hA hA'
   injection he with e1 e2 e3
   subst e1
   have : ds = ds' := by
    apply List.ext_getElem?
    intro i
    rcases Nat.lt_or_ge i ds.length with hi | hi
    ·obtain ⟨b, p, t1, q1, _, q3, q4⟩ := hA i ds[i] (List.getElem?_eq_getElem hi)
     obtain ⟨b', p', t2, r1, _, r3, r4⟩ := hA' i (ds'[i]'(by omega)) (List.getElem?_eq_getElem (by omega))
     rw [q1] at r1
     injection r1 with r1; injection r1 with r1 r2
     subst r1; subst r2
     obtain ⟨x1, x2, x3, x4, x5⟩ := alQq q3 r3
     subst x5
     rw [List.getElem?_eq_getElem hi, List.getElem?_eq_getElem (by omega), ih ds[i] (List.getElem_mem hi) _ t1 x1 x2 x3 x4 q4 r4]
    ·rw [List.getElem?_eq_none hi, List.getElem?_eq_none (by omega)]
   rw [this]
theorem at_det {w : World} {S S' : Nat → Prop} {b o : Nat} {a a' : Dep} {t t' : Value} (h : CellsD w b o a t) (hL : Lay w S a t) (h' : CellsD w b o a' t') (hL' : Lay w S' a' t') : a = a' ∧ t = t' := by
 obtain ⟨x1, x2, x3, x4, x5⟩ := alQq h h'
 subst x5
 exact ⟨lay_det a a' t x1 x2 x3 x4 hL hL', rfl⟩
theorem aqQ0 {w : World} {base n c size : Nat} {e : TypeId} {A : Option Addr} {xs ys : List Value} (h : w.ownsRow base e size (.slice A (n + 1) c) (n + 1) (xs ++ ys)) (hy : ys.length = size) : w.ownsRow base e size (.slice A n c) n xs := by
 have hl : xs.length = n * size := by have := h.1; rw [List.length_append, hy, Nat.add_mul] at this; omega
 refine ⟨hl, ?_⟩
 rcases h.2 with ⟨hv, h0⟩ | ⟨g, cap, cur, hv, hb, hg, h1, h2, h3, h4⟩
 ·cases hv
 ·injection hv with e1 e2 e3
  subst e1; subst e3
  refine .inr ⟨g, c, cur, rfl, hb, hg, by omega, h2, h3, ?_⟩
  have h5 := congrArg (List.take (n * size)) h4
  rw [List.take_take, Nat.min_eq_left (by rw [Nat.add_mul]; omega), List.take_left' hl] at h5
  exact h5
end Go.Proofs.YtdhgiammfpjniaaGreatDoor.Ev
