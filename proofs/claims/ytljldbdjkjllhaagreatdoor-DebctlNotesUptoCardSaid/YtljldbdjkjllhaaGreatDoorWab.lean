/- What a law's arguments are, and how a walk that turns nothing of what was there proves the law. A world in which Go's own table unicode/utf8.first lies, beside the tables that the program's text lays: the witness of these rows. Texts as lists of bytes: small words that every seat's walks use. A region that draws its order, in which a cell is loaded ahead of a store to it: what holds of the cells hangs on which stores have come up. A region that draws its order: where two may come up next; the steps of a look-up, of a store into a map, by their runs. A region that draws its order: what is not wanted. A scope with one label to which the run jumps back: what is behind the label is walked once. -/
import Derived.Test.YtljldbdjkjllhaaGreatDoorWaa
import Derived.ProofKit
import Derived.OpenShut
import Derived.ShutString
import Derived.ChangeOld
import Derived.SizedLaws
import Derived.JoinedCond
import Derived.SliceStrings
import Derived.Laws.IdiomArrays
import Derived.Deep.Slices
import Derived.Deep.Fields
import Derived.Test.YtljldbdjkjllhaaGreatDoorRows
import Derived.LaidMore
import Derived.Deep.RegionHeld
import Derived.StillTail
import Derived.ScopeJumps
import Derived.WalkMore
/- What a law's arguments are, and how a walk that turns nothing of what was there proves the law. -/
namespace Go.Proofs.YtljldbdjkjllhaaGreatDoor
set_option linter.unusedSimpArgs false
set_option linter.unusedVariables false
open Go.RowKit Go.ChangeShapes Go.WideShapes
open Go.ChangeMaps (open_string shut_string)

/-- A slice's head A leads, below block B, to cells that hold xs. -/
def Rd (w : World) (B : Nat) (A : Option Addr) (xs : List Value) : Prop :=
  ∀ k v, xs[k]? = some v → ∃ b o, A = some ⟨b, o, none⟩ ∧ b < B ∧ w.cell? ⟨b, o + k, none⟩ = some v
theorem Rd.nil {w : World} {B : Nat} {A : Option Addr} : Rd w B A [] := fun k v h => by simp at h
theorem Rd.below {w w' : World} {B B' : Nat} {A : Option Addr} {xs : List Value} (h : Rd w B A xs) (hb : Below B' w w') (hB : B ≤ B') : Rd w' B A xs := fun k v hk => by
  obtain ⟨b, o, rfl, hlt, hc⟩ := h k v hk
  exact ⟨b, o, rfl, hlt, (World.cell?_of_block (hb.block b (Nat.lt_of_lt_of_le hlt hB))).trans hc⟩
theorem Rd.at_ {w : World} {B : Nat} {A : Option Addr} {xs : List Value} (h : Rd w B A xs) {k : Nat} {v : Value} (hk : xs[k]? = some v) : ∃ b o, A = some ⟨b, o, none⟩ ∧ b < B ∧ w.cell? ⟨b, o + k, none⟩ = some v := h k v hk
theorem cell_lt {w : World} {a : Addr} {v : Value} (h : w.cell? a = some v) : a.block < w.heap.size := by
  rcases Nat.lt_or_ge a.block w.heap.size with hl | hl
  · exact hl
  · simp [World.cell?, Array.getElem?_eq_none hl] at h
/-! What an argument is: its value, how it reads. -/
section
variable {H : Type} {enc : TypeId × Value → H} {P : Program} {W : World}
def In (enc : TypeId × Value → H) (P : Program) (W : World) (t : TypeId) (v : Value) (d : DataW H) : Prop :=
  (∃ base, Value.okWide P W .any base t v) ∧ ∃ ps, DataW.Trod enc P W 0 (fun _ => true) true t v d ps
variable {t e : TypeId} {v : Value} {d : DataW H}
theorem In.string (h : In enc P W t v d) (ht : P.underlying t = some .string) : ∃ s : ByteArray, v = .string s ∧ d = .lit (.string s.data.toList) ∧ s.size ≤ maxLen := by
  obtain ⟨⟨b, hv⟩, ps, hd⟩ := h
  obtain ⟨s, h1, h2, _, h3⟩ := open_string ht hv hd
  exact ⟨s, h1, h2, h3⟩
theorem In.int {k : IntKind} (h : In enc P W t v d) (ht : P.underlying t = some (.int k)) : ∃ n, v = .int k n ∧ d = .lit (.int k n) ∧ (Lit.int k n).wf = true := by
  obtain ⟨⟨b, hv⟩, ps, hd⟩ := h
  obtain ⟨s, h1, h2, _, h3⟩ := open_int ht hv hd
  exact ⟨s, h1, h2, h3⟩
theorem In.bool (h : In enc P W t v d) (ht : P.underlying t = some .bool) : ∃ x, v = .bool x ∧ d = .lit (.bool x) := by
  obtain ⟨⟨b, hv⟩, ps, hd⟩ := h
  obtain ⟨s, h1, h2, _⟩ := open_bool ht hv hd
  exact ⟨s, h1, h2⟩
/-- How a slice's datum looks: its elements, its spare ones. -/
def Long (d : DataW H) (n c : Nat) : Prop := (d = .nil ∧ n = 0 ∧ c = 0) ∨ ∃ a b, d = .slice a b ∧ a.length = n ∧ n + b.length = c
/-- A slice of whatever: each element's cells, and how it reads. -/
theorem In.slice (h : In enc P W t v d) (ht : P.underlying t = some (.slice e)) (hpos : 0 < P.cellsOf e) :
    ∃ (A : Option Addr) (n c : Nat), v = .slice A n c ∧ n ≤ c ∧ c ≤ maxLen ∧ Long d n c ∧ ∀ i, i < n → ∃ (b o : Nat) (cs : List Value) (di : DataW H) (fuel : Nat) (ps : List MemPlace), A = some ⟨b, o, none⟩ ∧ b < W.heap.size ∧ cs.length = P.cellsOf e ∧
      (∀ j u, cs[j]? = some u → W.cell? ⟨b, o + (i * P.cellsOf e + j), none⟩ = some u) ∧ DataW.trod enc P W 0 (fun _ => true) true fuel e cs = some (di, ps) ∧ (∃ xs ys, d = .slice xs ys ∧ xs[i]? = some di) := by
  obtain ⟨⟨b, hv⟩, ps, fuel, hf⟩ := h
  obtain ⟨A, n, c, rfl⟩ := okWide_slice ht hv
  rcases Go.Deep.open_slice ht hf with ⟨hcs, hx⟩ | ⟨a, len, cap, m, k, D, Pl, hcs, _, hl, hm, hmm, hx, hi⟩
  · simp [Value.cells] at hcs
    obtain ⟨rfl, rfl, rfl⟩ := hcs
    simp only [Prod.mk.injEq] at hx
    exact ⟨none, 0, 0, rfl, Nat.le_refl _, by simp [maxLen], .inl ⟨hx.1, rfl, rfl⟩, fun i hi => by omega⟩
  · simp [Value.cells] at hcs
    obtain ⟨rfl, rfl, rfl⟩ := hcs
    simp only [Prod.mk.injEq] at hx
    obtain ⟨rfl, _⟩ := hx
    have hm' : m = c := by simpa using hmm
    subst hm'
    refine ⟨some a, n, m, rfl, hl, hm, .inr ⟨_, _, rfl, by simp, by simp; omega⟩, fun i hin => ?_⟩
    obtain ⟨cs, hc, ht'⟩ := hi i (by omega)
    obtain ⟨_, hlen, hat⟩ := World.cells?_some hc
    obtain ⟨u0, hu0⟩ : ∃ u, cs[0]? = some u := ⟨_, List.getElem?_eq_getElem (by omega)⟩
    have hs' : a.spot = none := by
      obtain ⟨cs1, hc1, _⟩ := hi 0 (by omega)
      obtain ⟨_, hlen1, hat1⟩ := World.cells?_some hc1
      have := hat1 0 hpos
      rw [List.getElem?_eq_getElem (by omega)] at this
      have hh : W.cell? a = some (cs1[0]'(by omega)) := by simpa [Addr.add] using this
      exact World.cell?_spot hh
    obtain ⟨ab, ao, asp⟩ := a
    simp only at hs'
    subst hs'
    have e1 : ∀ x y, ((Addr.add ⟨ab, ao, none⟩ x).add y) = ⟨ab, ao + (x + y), none⟩ := fun x y => by
      unfold Addr.add
      by_cases hx : x = 0 <;> by_cases hy : y = 0 <;> simp [hx, hy, Nat.add_assoc]
    have hcell : ∀ j u, cs[j]? = some u → W.cell? ⟨ab, ao + (i * P.cellsOf e + j), none⟩ = some u := fun j u hj => by
      have hjl := (List.getElem?_eq_some_iff.1 hj).1
      have := hat j (by omega)
      rw [e1, hj] at this
      exact this
    exact ⟨ab, ao, cs, D i, k, Pl i, rfl, cell_lt (hcell 0 u0 hu0), hlen, hcell, ht', _, _, rfl, by rw [List.getElem?_map, List.getElem?_range hin]; rfl⟩
end

/-- A law's way to true, nothing of what was there turned. -/
def TrueBelow (w : World) (e : Ending) (w' : World) : Prop := e = .returned (.bool true) ∧ Below w.heap.size w w'

theorem ret_bool {a b : Bool} (h : a = b) : Ending.returned (.bool a) = .returned (.bool b) := by rw [h]

/-! How a law is proved whose walk turns nothing of what was there. -/
section
variable {H : Type} {enc : TypeId × Value → H} {P : Program}
theorem trodAll_below (hl : laidOutB P = true) {W W' : World} (hb : Below W.heap.size W W') : ∀ (ts : List TypeId) (vs : List Value) (ds : List (DataW H)) (ps : List MemPlace), (∀ t ∈ ts, P.readableRec t = true ∧ t < P.types.size) →
    DataW.TrodAll enc P W 0 (fun _ => true) true ts vs ds ps → DataW.TrodAll enc P W' 0 (fun b => decide (b < W.heap.size)) true ts vs ds ps
  | [], vs, ds, ps, _, h => by
    obtain ⟨rfl, rfl, rfl⟩ := trodAll_nil h
    exact trodAll_mk0
  | t :: ts, vs, ds, ps, hr, h => by
    obtain ⟨v, vs', d, ds', p, q, rfl, rfl, rfl, h0, r0⟩ := trodAll_cons h
    have lt0 : ∀ x ∈ p, x.block < W.heap.size := by obtain ⟨m, hm⟩ := h0; exact DataW.trod_lt m _ _ _ hm
    exact trodAll_cons_mk (Below.trod hl (hr t (by simp)).1 (hr t (by simp)).2 h0 hb lt0) (trodAll_below hl hb ts vs' ds' q (fun u hu => hr u (by simp [hu])) r0)

theorem post_law {f : Func} {s : ChangeSpec} {W W' : World} {args : Array Value} {ds : List (DataW H)} {before : List MemPlace} {tb : TypeId}
    (hl : laidOutB P = true) (hr : ∀ t ∈ f.params.toList, P.readableRec t = true ∧ t < P.types.size) (hs : s.vars = []) (hres : f.resultTypes = #[tb]) (htb : P.underlying tb = some .bool)
    (hW : DataW.Whole enc P f.params.toList s.vars false W args.toList ds [] before) (hfn : s.fn H (ds ++ []) = { results := [.lit (.bool true)], args := ds })
    (hb : Below W.heap.size W W') : s.post enc P f false true false false W args (.bool true) W' := by
  have hW' := hW
  obtain ⟨p, q, hA, hV, hp, _, _⟩ := hW
  refine ⟨ds, [], before, [], p, [], hW', ?_, ?_, ?_, hb.frame _, fun h => by cases h⟩
  · rw [hres, hfn]
    exact trodAll_mk1 (shut_bool htb _)
  · rw [hfn]
    exact trodAll_below hl hb _ _ _ _ hr hA
  · rw [hfn, hs]
    exact rfl
end
end Go.Proofs.YtljldbdjkjllhaaGreatDoor

/- A world in which Go's own table unicode/utf8.first lies, beside the tables that the program's text lays: the witness of these rows. -/
namespace Go.Proofs.YtljldbdjkjllhaaGreatDoor
set_option linter.unusedSimpArgs false
set_option linter.unusedVariables false
noncomputable def witW (os : Os) : World :=
  { World.doorLaid Tryz.prog 107 os with heap := (World.doorLaid Tryz.prog 107 os).heap.setIfInBounds 7 (.cells (Go.Pinned.utf8FirstZ.map fun n : Nat => Value.int .u8 (n : Int)).toArray 236 (0, 0)) }
end Go.Proofs.YtljldbdjkjllhaaGreatDoor

/- Texts as lists of bytes: small words that every seat's walks use. -/
namespace Go.Proofs.YtljldbdjkjllhaaGreatDoor
set_option linter.unusedSimpArgs false
set_option linter.unusedVariables false
open Go.RowKit

/-- A function that tells of a byte. -/
def IsPred (f : FuncId) (p : UInt8 → Bool) : Prop := ∀ (c : UInt8) (w : World), Calls Tryz.prog f #[.int .u8 (c.toNat : Int)] w fun e w' => e = .returned (.bool (p c)) ∧ w = w'
def mkS (l : List UInt8) : ByteArray := ⟨l.toArray⟩
theorem mkS_list (l : List UInt8) : (mkS l).data.toList = l := rfl
theorem all_snoc {p : UInt8 → Bool} {l : List UInt8} {k : Nat} {c : UInt8} (h : (l.take k).all p = true) (hc : l[k]? = some c) (hp : p c = true) : (l.take (k + 1)).all p = true := by
  rw [List.take_add_one, hc, List.all_append, h]
  simp [hp]
theorem while_is {p : UInt8 → Bool} {l : List UInt8} {k : Nat} (h : (l.take k).all p = true) (hk : k ≤ l.length) (hc : ∀ c, l[k]? = some c → p c = false) : k = (l.takeWhile p).length := by
  induction l generalizing k with
  | nil => simp at hk; subst hk; rfl
  | cons b l ih =>
    cases k with
    | zero =>
      have := hc b rfl
      simp [this]
    | succ k =>
      simp only [List.take_succ_cons, List.all_cons, Bool.and_eq_true] at h
      rw [List.takeWhile_cons, h.1]
      have := ih h.2 (by simpa using hk) (fun c hcc => hc c (by simpa using hcc))
      simp [← this]
theorem byte_at {s : ByteArray} {k : Nat} (h : k < s.size) : s.data.toList[k]? = some s[k] := by
  have h' : k < s.data.size := h
  rw [Array.getElem?_toList, Array.getElem?_eq_getElem h']
  rfl
theorem list_nil {s : ByteArray} (h : s.size = 0) : s.data.toList = [] := by
  apply List.eq_nil_of_length_eq_zero
  simpa using h
theorem list_cons {s : ByteArray} (h : 0 < s.size) : s.data.toList = s[0] :: s.data.toList.tail := by
  have h0 := byte_at h
  cases hl : s.data.toList with
  | nil => rw [hl] at h0; cases h0
  | cons b r => rw [hl] at h0; simp at h0; rw [← h0]; rfl
theorem size_len (s : ByteArray) : s.data.toList.length = s.size := by simp
theorem empty_of {s : ByteArray} (h : s.size = 0) : s = ⟨#[]⟩ := by
  obtain ⟨⟨l⟩⟩ := s
  have : l = [] := List.eq_nil_of_length_eq_zero h
  rw [this]
theorem toList_cons {s : ByteArray} (h : 0 < s.size) : s.toList.isEmpty = false := by
  rw [ByteArray.toList_eq, list_cons h]; rfl
theorem take_of_while {p : UInt8 → Bool} (l : List UInt8) : l.takeWhile p = l.take (l.takeWhile p).length := by
  induction l with
  | nil => rfl
  | cons b l ih =>
    rw [List.takeWhile_cons]
    split
    · simp [← ih]
    · simp
theorem drop_of_while {p : UInt8 → Bool} (l : List UInt8) : l.dropWhile p = l.drop (l.takeWhile p).length := by
  induction l with
  | nil => rfl
  | cons b l ih =>
    rw [List.takeWhile_cons, List.dropWhile_cons]
    split
    · simp [← ih]
    · simp
theorem while_all {p : UInt8 → Bool} (l : List UInt8) : (l.takeWhile p).all p = true := by
  induction l with
  | nil => rfl
  | cons b l ih =>
    rw [List.takeWhile_cons]
    split
    · rename_i hb; simp only [List.all_cons, hb, ih, Bool.and_self]
    · rfl
theorem while_le {p : UInt8 → Bool} (l : List UInt8) : (l.takeWhile p).length ≤ l.length := (List.takeWhile_prefix p).length_le
theorem bl_from (s : ByteArray) (n : Nat) : (s.extract n s.size).data.toList = s.data.toList.drop n := by
  simp
  rw [List.take_of_length_le]
  simp
theorem bl_upto (s : ByteArray) (n : Nat) : (s.extract 0 n).data.toList = s.data.toList.take n := by
  simp
theorem s_ext {a b : ByteArray} (h : a.data.toList = b.data.toList) : a = b := by
  obtain ⟨⟨l⟩⟩ := a
  obtain ⟨⟨m⟩⟩ := b
  have : l = m := h
  rw [this]
end Go.Proofs.YtljldbdjkjllhaaGreatDoor

/- A region that draws its order, in which a cell is loaded ahead of a store to it: what holds of the cells hangs on which stores have come up. -/
namespace Go.Proofs.YtljldbdjkjllhaaGreatDoor
set_option linter.unusedSimpArgs false
set_option linter.unusedVariables false
open Go

section
variable {P : Program} {ops : Array Oper} {Q : Exit → Act → World → Prop} {md : Region.Mode} {S : Array Bool → World → Prop}

/-- Whatever order is picked, and S, which may look at what has come up, holds behind each. -/
def wpAnyS (P : Program) (md : Region.Mode) (ops : Array Oper) (Q : Exit → Act → World → Prop) (S : Array Bool → World → Prop) : Nat → Array Bool → Act → World → Prop
  | 0, listed, a, w => Region.ready md ops listed = [] ∧ Q .normal a w
  | fuel + 1, listed, a, w =>
    (Region.ready md ops listed = [] → Q .normal a w) ∧
    ∀ i ∈ Region.ready md ops listed, wpOp P ops Q i (fun a' w' => S (listed.setIfInBounds i true) w' ∧ wpAnyS P md ops Q S fuel (listed.setIfInBounds i true) a' w') a w

theorem wpAny_of_S : ∀ (fuel : Nat) (listed : Array Bool) (a : Act) (w : World), wpAnyS P md ops Q S fuel listed a w → wpAny P md ops Q fuel listed a w
  | 0, _, _, _, h => h
  | fuel + 1, _, _, _, h => ⟨h.1, fun i hi => wpOp_mono (fun a' w' h' => wpAny_of_S fuel _ a' w' h'.2) (h.2 i hi)⟩

theorem wpAnyS_first {S' : World → Prop} {i : Nat} {oi : Oper} {v : Value} (hi : ops[i]? = some oi) (hsel : ∀ (j : Nat) (o : Oper) cs b, ops[j]? = some o → o.op ≠ .select cs b)
    (hQ : ∀ c a w, Q (.panic c) (a.put oi.dst v) w → Q (.panic c) a w)
    (hin : ∀ l w, (∀ k, Region.waitsFor md ops k i = true → l.getD k true = false) → S l w → S' w)
    (hio : ∀ l w, S (l.setIfInBounds i true) w ↔ S l w) :
    ∀ (fuel : Nat) (listed : Array Bool) (a : Act) (w : World),
      (∀ j oj, ops[j]? = some oj → j ≠ i → listed.getD j true = false → (∀ e ∈ oj.after, Region.binds md e = true → e.on ≠ i) → oi.apart ops oj = true) →
      (∀ k, Region.waitsFor md ops k i = true → listed.getD k true = false) →
      i ∈ Region.ready md ops listed → YieldsIf P ops S' oi v a → S listed w →
      wpAnyS P md ops Q S fuel (listed.setIfInBounds i true) (a.put oi.dst v) w → wpAnyS P md ops Q S (fuel + 1) listed a w := by
  intro fuel
  induction fuel with
  | zero =>
    intro listed a w _ hwt hr hy hS H
    refine ⟨fun h => (by rw [h] at hr; cases hr), fun j hj => ?_⟩
    by_cases hji : j = i
    · subst hji
      exact hy.wpOp hi (hin _ _ hwt hS) ⟨(hio _ _).2 hS, H⟩
    · have := ready_mono hj hji
      rw [H.1] at this
      cases this
  | succ fuel ih =>
    intro listed a w hfree hwt hr hy hS H
    refine ⟨fun h => (by rw [h] at hr; cases hr), fun j hj => ?_⟩
    by_cases hji : j = i
    · subst hji; exact hy.wpOp hi (hin _ _ hwt hS) ⟨(hio _ _).2 hS, H⟩
    · have h1 := H.2 j (ready_mono hj hji)
      obtain ⟨hjun, oj, hoj, hall⟩ := mem_ready.1 hj
      have hnot : ∀ e ∈ oj.after, Region.binds md e = true → e.on ≠ i := fun e he hb heq => by
        have h1 := hall e he hb
        have h0 := (mem_ready.1 hr).1
        rw [heq] at h1
        rcases Nat.lt_or_ge i listed.size with h' | h'
        · simp [h'] at h0 h1; rw [h0] at h1; cases h1
        · simp [Array.getElem?_eq_none h'] at h1
      have h2 := wpOp_putIf hoj (hfree j oj hoj hji hjun hnot) (fun cs b => hsel i oi cs b hi) (fun cs b => hsel j oj cs b hoj) hQ hy h1
      have hfree' : ∀ k ok, ops[k]? = some ok → k ≠ i → (listed.setIfInBounds j true).getD k true = false →
          (∀ e ∈ ok.after, Region.binds md e = true → e.on ≠ i) → oi.apart ops ok = true := fun k ok hk hki hun hno => by
        refine hfree k ok hk hki ?_ hno
        by_cases hjk : j = k
        · subst hjk; exact hjun
        · rw [getD_set_ne true hjk] at hun; exact hun
      have hwt' : ∀ k, Region.waitsFor md ops k i = true → (listed.setIfInBounds j true).getD k true = false := fun k hk => by
        have hjk : j ≠ k := by
          rintro rfl
          obtain ⟨o', ho', e, he, hb, hon⟩ := Region.waitsFor_spec hk
          have : o' = oj := Option.some.inj (ho'.symm.trans hoj)
          subst this
          exact hnot e he hb hon
        rw [getD_set_ne true hjk]; exact hwt k hk
      refine wpOp_mono (fun a' w' h3 => ?_) h2
      obtain ⟨hy', hS', H'⟩ := h3
      rw [Array.setIfInBounds_comm _ _ (Ne.symm hji)] at hS'
      have hS2 := (hio _ _).1 hS'
      refine ⟨hS2, ih (listed.setIfInBounds j true) a' w' hfree' hwt' (ready_mono hr (Ne.symm hji)) hy' hS2 ?_⟩
      rw [Array.setIfInBounds_comm _ _ hji]
      exact H'

/-- Take number i first. -/
theorem wpAnyS_take (S' : World → Prop) {i : Nat} {oi : Oper} {v : Value} {fuel : Nat} {listed : Array Bool} {a : Act} {w : World} (hi : ops[i]? = some oi)
    (hs : Region.noSelect ops = true) (hf : Region.free md ops listed i = true) (hr : (Region.ready md ops listed).contains i = true)
    (hQ : ∀ c a w, Q (.panic c) (a.put oi.dst v) w → Q (.panic c) a w)
    (hin : ∀ l w, (∀ k, Region.waitsFor md ops k i = true → l.getD k true = false) → S l w → S' w)
    (hio : ∀ l w, S (l.setIfInBounds i true) w ↔ S l w)
    (hwt : ((List.range ops.size).all fun k => !Region.waitsFor md ops k i || !listed.getD k true) = true)
    (hS : S listed w) (hy : ∀ w, S' w → (execOp a.eval oi).run P w = .ok (.value v) w) (hw : Region.wanted oi (yielded ops a.tmps) = true)
    (h : S (listed.setIfInBounds i true) w → wpAnyS P md ops Q S fuel (listed.setIfInBounds i true) (a.put oi.dst v) w) : wpAnyS P md ops Q S (fuel + 1) listed a w := by
  refine wpAnyS_first (S' := S') hi (Region.noSelect_spec hs) hQ hin hio fuel listed a w (Region.free_spec hi hf) (fun k hk => ?_) (by simpa using hr) (.inl ⟨hw, hy⟩) hS (h ((hio _ _).2 hS))
  obtain ⟨o', ho', _⟩ := Region.waitsFor_spec hk
  have h1 := List.all_eq_true.1 hwt k (List.mem_range.2 (Array.getElem?_eq_some_iff.1 ho').1)
  rw [hk] at h1
  simpa using h1
/-- The one that may come up comes up. -/
theorem wpAnyS_one {i : Nat} {o : Oper} {fuel : Nat} {listed : Array Bool} {a : Act} {w : World} (hr : Region.ready md ops listed = [i]) (ho : ops[i]? = some o)
    (h : ∀ K' : Act → World → Prop, Shut (∀ a w, S (listed.setIfInBounds i true) w → (S (listed.setIfInBounds i true) w → wpAnyS P md ops Q S fuel (listed.setIfInBounds i true) a w) → K' a w) →
      if Region.wanted o (yielded ops a.tmps) = true then Oper.wp P o a w K' Q else K' (a.put o.dst undef) w) : wpAnyS P md ops Q S (fuel + 1) listed a w := by
  refine ⟨fun h0 => (by rw [hr] at h0; cases h0), fun j hj => ?_⟩
  rw [hr] at hj
  have : j = i := by simpa using hj
  subst this
  exact wpOp_step ho (fun K' hK => h K' (fun a w hS hW => hK a w ⟨hS, hW hS⟩))
theorem wpAnyS_done {listed : Array Bool} {a : Act} {w : World} (hr : Region.ready md ops listed = []) (h : Q .normal a w) : ∀ fuel, wpAnyS P md ops Q S fuel listed a w
  | 0 => ⟨hr, h⟩
  | _ + 1 => ⟨fun _ => h, by rw [hr]; simp⟩
theorem wp_region_S {id : Nat} {a : Act} {w : World} (S : Array Bool → World → Prop) (hm : P.follows .mixedOrders = true) (hS : S (Array.replicate ops.size false) w.drew)
    (h : S (Array.replicate ops.size false) w.drew → wpAnyS P .any ops Q S ops.size (Array.replicate ops.size false) a w.drew) : (Code.region id ops true).wp P Q a w :=
  wp_region_any hm (wpAny_of_S _ _ _ _ (h hS))
end

/-- Each cell holds its value till number k, a store, has come up. -/
def Till (L : List (Nat × Addr × Value)) (l : Array Bool) (w : World) : Prop := ∀ x, x ∈ L → l.getD x.1 true = false → w.cell? x.2.1 = some x.2.2
theorem Till.out {L : List (Nat × Addr × Value)} {l : Array Bool} {w : World} (h : Till L l w) {k : Nat} {p : Addr} {v : Value} (hx : (k, p, v) ∈ L) (hk : l.getD k true = false) : w.cell? p = some v := h _ hx hk
theorem Till.two {k k' : Nat} {p p' : Addr} {v v' : Value} {l : Array Bool} {w : World} (h : w.cell? p = some v) (h' : w.cell? p' = some v') : Till [(k, p, v), (k', p', v')] l w := fun x hx _ => by
  rcases List.mem_cons.1 hx with rfl | hx
  · exact h
  · rcases List.mem_cons.1 hx with rfl | hx
    · exact h'
    · cases hx
end Go.Proofs.YtljldbdjkjllhaaGreatDoor

/- A region that draws its order: where two may come up next; the steps of a look-up, of a store into a map, by their runs. -/
namespace Go.Proofs.YtljldbdjkjllhaaGreatDoor
set_option linter.unusedSimpArgs false
set_option linter.unusedVariables false
open Go

section
variable {P : Program} {ops : Array Oper} {Q : Exit → Act → World → Prop} {md : Region.Mode} {S : Array Bool → World → Prop}
end
end Go.Proofs.YtljldbdjkjllhaaGreatDoor

/- A region that draws its order: what is not wanted. -/
namespace Go.Proofs.YtljldbdjkjllhaaGreatDoor
set_option linter.unusedSimpArgs false
set_option linter.unusedVariables false
open Go
section
variable {P : Program} {ops : Array Oper} {Q : Exit → Act → World → Prop} {md : Region.Mode} {S : Array Bool → World → Prop}
end
end Go.Proofs.YtljldbdjkjllhaaGreatDoor

/- A scope with one label to which the run jumps back: what is behind the label is walked once. -/
namespace Go.Proofs.YtljldbdjkjllhaaGreatDoor
set_option linter.unusedSimpArgs false
set_option linter.unusedVariables false
open Go
variable {P : Program} {a : Act} {w : World} {Q : Exit → Act → World → Prop}

end Go.Proofs.YtljldbdjkjllhaaGreatDoor
