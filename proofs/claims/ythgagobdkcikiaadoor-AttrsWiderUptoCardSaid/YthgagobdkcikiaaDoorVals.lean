/- A range over a key's values: the step; what a search has found. -/
import Derived.Test.YthgagobdkcikiaaDoorTexts
import Derived.Test.YthgagobdkcikiaaDoorGet
import Derived.Test.YthgagobdkcikiaaDoorSortI
import Derived.Maps.RangeWalk
import Derived.Sort.KeysCollected
namespace Go.Proofs.YthgagobdkcikiaaDoor
set_option linter.unusedSimpArgs false
set_option linter.unusedVariables false
open Go.RowKit

theorem rdBy_some {β : Type} {val : β → Value} {en : β → DataW Unit} (inj : ∀ a b, val a = val b → a = b) {v : Value} {y : DataW Unit × List MemPlace} (h : rdBy val en v = some y) : ∃ r, v = val r ∧ y = (en r, []) := by
  by_cases h0 : ∃ r, v = val r
  · obtain ⟨r, rfl⟩ := h0
    rw [rdBy_val inj] at h
    exact ⟨r, rfl, (Option.some.inj h).symm⟩
  · unfold rdBy at h
    rw [dif_neg h0] at h
    cases h
/-- The value that a package has under a key, in memory. -/
structure ValAt (w : World) (S : VSt) (key : ByteArray) (id k n : Int) (s : ByteArray) (A : Option Addr) (l : List ByteArray) : Prop where
  ok : okI id
  raw : ∃ r, S.raw key id = some r ∧ r.1.k = k ∧ r.1.n = n ∧ r.1.s = s ∧ RowAt w r.1 l
  rd : Rd w w.heap.size A (l.map Value.string)
  len : l.length ≤ 200
  sz : s.size ≤ 200
  tz : ∀ t, t ∈ l → t.size ≤ 200
  num : okI n
theorem valAt_of {w : World} {vk : Value} {mk mv N : Nat} {S : VSt} (hV : ValP w vk mk mv S N) {key : ByteArray} {id : Int} (hid : okI id) {r : RawN} (hr : S.raw key id = some r) :
    ∃ k n s A l, valRN r = .agg #[.int .i64 k, .int .i64 n, .string s, .slice A l.length l.length] ∧ ValAt w S key id k n s A l := by
  obtain ⟨l, hl, h1, h2, h3, h4, -⟩ := hV.lists key id r hr
  obtain ⟨⟨k, n, s, a, m⟩, hn⟩ := r
  cases a with
  | none =>
    have e : l = [] := hl
    subst e
    have e2 : m = 0 := hn rfl
    subst e2
    exact ⟨k, n, s, none, [], rfl, hid, ⟨_, hr, rfl, rfl, rfl, hl⟩, Rd.nil, by simp, h1, by simp, h4⟩
  | some b =>
    have e : m = l.length := hl.1
    subst e
    refine ⟨k, n, s, some ⟨b, 0, none⟩, l, rfl, hid, ⟨_, hr, rfl, rfl, rfl, hl⟩, fun j u hj => ⟨b, 0, rfl, hl.2.lt, ?_⟩, h2, h1, h3, h4⟩
    have := hl.2.cell j
    rw [Nat.zero_add, this]
    simpa using hj
/-- What is found. -/
def Found (w : World) (S : VSt) (key : ByteArray) (q : ByteArray → Bool) (id : Int) : Prop :=
  ∃ r l, S.raw key id = some r ∧ RowAt w r.1 l ∧ (textsL r.1.k r.1.n r.1.s l).any q = true
theorem rowAt_one {w : World} {r : Raw} {l l' : List ByteArray} (h : RowAt w r l) (h' : RowAt w r l') : l = l' := by
  unfold RowAt at h h'
  cases ha : r.a with
  | none => rw [ha] at h h'; exact h.trans h'.symm
  | some b =>
    rw [ha] at h h'
    have e := h.2.symm.trans h'.2
    simp only [Option.some.injEq, Obj.cells.injEq, Array.mk.injEq, true_and, and_true] at e
    exact (List.map_inj_right (fun a b h => by injection h)).1 e
theorem ValAt.found {w : World} {S : VSt} {key : ByteArray} {q : ByteArray → Bool} {id k n : Int} {s : ByteArray} {A : Option Addr} {l : List ByteArray} (h : ValAt w S key id k n s A l) : Found w S key q id ↔ (textsL k n s l).any q = true := by
  obtain ⟨r, hr, rfl, rfl, rfl, hl⟩ := h.raw
  constructor
  · rintro ⟨r', l', hr', hl', ha⟩
    rw [hr] at hr'
    injection hr' with e
    subst e
    rw [rowAt_one hl hl']
    exact ha
  · intro ha
    exact ⟨r, l, hr, hl, ha⟩
/-- What was collected. -/
def Coll (w : World) (S : VSt) (key : ByteArray) (q : ByteArray → Bool) (left : Lit → Bool) (G : List Int) : Prop :=
  G.Nodup ∧ (∀ id, id ∈ G → okI id) ∧ ∀ id, id ∈ G ↔ okI id ∧ left (kdI id) = false ∧ Found w S key q id
theorem Coll.start {w : World} {S : VSt} {key : ByteArray} {q : ByteArray → Bool} {D : DataW Unit} (hA : Agr kdI okI enRN D (S.raw key)) : Coll w S key q (Maps.has D) [] :=
  ⟨List.nodup_nil, fun id h => by simp at h, fun id => ⟨fun h => by simp at h, fun ⟨h1, h2, r, l, h3, _⟩ => by
    rw [hA.has id h1, h3] at h2
    cases h2⟩⟩
theorem same_kdI {a b : Int} : (kdI a).sameKey (kdI b) = decide (a = b) := by simp [kdI, Lit.sameKey]
theorem Coll.no {w : World} {S : VSt} {key : ByteArray} {q : ByteArray → Bool} {left : Lit → Bool} {G : List Int} {id : Int} (h : Coll w S key q left G) (hl : left (kdI id) = true) (hf : ¬ Found w S key q id) : Coll w S key q (fun z => left z && !z.sameKey (kdI id)) G := by
  refine ⟨h.1, h.2.1, fun x => (h.2.2 x).trans ?_⟩
  by_cases hx : x = id
  · subst hx
    simp [hl, hf]
  · simp [same_kdI, hx]
theorem Coll.yes {w : World} {S : VSt} {key : ByteArray} {q : ByteArray → Bool} {left : Lit → Bool} {G : List Int} {id : Int} (h : Coll w S key q left G) (hid : okI id) (hl : left (kdI id) = true) (hf : Found w S key q id) : Coll w S key q (fun z => left z && !z.sameKey (kdI id)) (G ++ [id]) := by
  have hnew : id ∉ G := fun hm => by have := ((h.2.2 id).1 hm).2.1; rw [hl] at this; cases this
  refine ⟨List.nodup_append.2 ⟨h.1, by simp, fun a ha b hb => by simp at hb; subst hb; exact fun e => hnew (e ▸ ha)⟩, fun x hx => ?_, fun x => ?_⟩
  · rcases List.mem_append.1 hx with hx | hx
    · exact h.2.1 x hx
    · simp at hx; subst hx; exact hid
  · rw [List.mem_append, h.2.2 x]
    by_cases hx : x = id
    · subst hx
      simp [hid, hf, same_kdI]
    · simp [same_kdI, hx]
theorem wpList_next_vals {w wr : World} {vk : Value} {mk mv N ib r n : Nat} {S : VSt} {key : ByteArray} {D : DataW Unit} {left : Lit → Bool} {cnt : Nat} (hV : ValP w vk mk mv S N) (hA : Agr kdI okI enRN D (S.raw key))
    {ops : Array Oper} {rest : List Oper} {o : Oper} {a : Act} {Q : Exit → Act → World → Prop} (hg : o.guard = none) (it : Operand) (hop : o.op = Op.next it false) (hit : a.eval it = .pointer (some ⟨r, 0, none⟩))
    (h : wr.ranges Tryd.prog 3 rdR ib r n D left cnt)
    (hDone : cnt = 0 → (∀ kl, left kl = false) → wpList Tryd.prog ops Q rest (a.put o.dst (.tuple #[.bool false])) wr)
    (hMore : ∀ (id k m : Int) (s : ByteArray) (A : Option Addr) (l : List ByteArray) (w' : World) (cnt' : Nat), ValAt w S key id k m s A l → left (kdI id) = true → w'.ranges Tryd.prog 3 rdR ib r n D (fun z => left z && !z.sameKey (kdI id)) cnt' → cnt' < cnt →
      wr.grownBy w' (some r) → w'.heap.size = wr.heap.size → (Instr.entry (.pointer (some ⟨r, 0, none⟩))).run Tryd.prog w' = .ok (.tuple #[.int .i64 id, .agg #[.int .i64 k, .int .i64 m, .string s, .slice A l.length l.length]]) w' →
      wpList Tryd.prog ops Q rest (a.put o.dst (.tuple #[.bool true, .int .i64 id, .agg #[.int .i64 k, .int .i64 m, .string s, .slice A l.length l.length]])) w') :
    wpList Tryd.prog ops Q (o :: rest) a wr :=
  wpList_next_ranges wr hg it hop 3 lawI rdR (Value.int .i64) valRN (fun key kl hkey => by obtain ⟨x, rfl, _⟩ := Maps.keyOf_int_inv Tryd.underlying3 hkey; exact ⟨x, rfl⟩) (fun v y hv => by obtain ⟨c, rfl, _⟩ := rdBy_some valRN_inj hv; exact ⟨c, rfl⟩)
    ib r n D left cnt hit h hDone (fun x c kl y w' cnt' hkey hlk hv hat hrg hlt hgr hsz hen => by
      obtain ⟨x', ex, rfl, hwx⟩ := Maps.keyOf_int_inv Tryd.underlying3 hkey
      injection ex with _ ex
      subst ex
      have hid : okI x := hwx
      obtain ⟨c', ec, rfl⟩ := rdBy_some valRN_inj hv
      obtain rfl := valRN_inj _ _ ec
      have h1 := hA.at_ x zR hid
      rw [show D.atKey (kdI x) (enRN zR) = enRN c from hat _] at h1
      have h2 := enRN_inj _ _ h1
      have h3 : Maps.has D (kdI x) = true := Maps.has_true_of_atKey hat
      rw [hA.has x hid] at h3
      obtain ⟨r', hr'⟩ := Option.isSome_iff_exists.1 h3
      rw [hr'] at h2
      simp only [Option.getD_some] at h2
      subst h2
      obtain ⟨k, m, s, A, l, e, hv⟩ := valAt_of hV hid hr'
      rw [e] at hen ⊢
      exact hMore x k m s A l w' cnt' hv hlk hrg hlt hgr hsz hen)
end Go.Proofs.YthgagobdkcikiaaDoor
