/- What a law's arguments are, and how a walk that turns nothing of what was there proves the law. -/
import Derived.Test.YtciogfpejenedaaGreatDoorMem
import Derived.ProofKit
import Derived.OpenShut
import Derived.ShutString
import Derived.ChangeOld
import Derived.SizedLaws
import Derived.JoinedCond
import Derived.SliceStrings
import Derived.Laws.IdiomArrays
import Derived.Deep.Slices
import Derived.Deep.Fields
namespace Go.Proofs.YtciogfpejenedaaGreatDoor
set_option linter.unusedSimpArgs false
set_option linter.unusedVariables false
open Go.RowKit Go.ChangeShapes Go.WideShapes
open Go.ChangeMaps (open_string shut_string)

/-- A slice's head A leads, below block B, to cells that hold xs. -/
def Rd (w : World) (B : Nat) (A : Option Addr) (xs : List Value) : Prop :=
  ∀ k v, xs[k]? = some v → ∃ b o, A = some ⟨b, o, none⟩ ∧ b < B ∧ w.cell? ⟨b, o + k, none⟩ = some v
theorem Rd.nil {w : World} {B : Nat} {A : Option Addr} : Rd w B A [] := fun k v h => by simp at h
theorem Rd.below {w w' : World} {B B' : Nat} {A : Option Addr} {xs : List Value} (h : Rd w B A xs) (hb : Below B' w w') (hB : B ≤ B') : Rd w' B A xs := fun k v hk => by
  obtain ⟨b, o, rfl, hlt, hc⟩ := h k v hk
  exact ⟨b, o, rfl, hlt, (World.cell?_of_block (hb.block b (Nat.lt_of_lt_of_le hlt hB))).trans hc⟩
theorem Rd.at_ {w : World} {B : Nat} {A : Option Addr} {xs : List Value} (h : Rd w B A xs) {k : Nat} {v : Value} (hk : xs[k]? = some v) : ∃ b o, A = some ⟨b, o, none⟩ ∧ b < B ∧ w.cell? ⟨b, o + k, none⟩ = some v := h k v hk
theorem cell_lt {w : World} {a : Addr} {v : Value} (h : w.cell? a = some v) : a.block < w.heap.size := by
  rcases Nat.lt_or_ge a.block w.heap.size with hl | hl
  · exact hl
  · simp [World.cell?, Array.getElem?_eq_none hl] at h
/-- Cells that stand one behind the other. -/
theorem rd_of {w : World} {a : Addr} {xs : List Value} (h : ∀ i v, xs[i]? = some v → w.cell? (a.add i) = some v) : Rd w w.heap.size (some a) xs := fun k v hk => by
  have h0 : ∃ u, xs[0]? = some u := by
    rcases xs with _ | ⟨u, r⟩
    · simp at hk
    · exact ⟨u, rfl⟩
  obtain ⟨u, hu⟩ := h0
  have hc := h k v hk
  have hs : a.spot = none := by simpa [Addr.add] using World.cell?_spot (h 0 u hu)
  obtain ⟨b, o, sp⟩ := a
  simp only at hs
  subst hs
  have e : (Addr.add ⟨b, o, none⟩ k) = ⟨b, o + k, none⟩ := by
    unfold Addr.add
    split
    · rename_i h0; subst h0; rfl
    · rfl
  rw [e] at hc
  exact ⟨b, o, rfl, cell_lt hc, hc⟩

/-! What an argument is: its value, how it reads. -/
section
variable {H : Type} {enc : TypeId × Value → H} {P : Program} {W : World}
def In (enc : TypeId × Value → H) (P : Program) (W : World) (t : TypeId) (v : Value) (d : DataW H) : Prop :=
  (∃ base, Value.okWide P W .any base t v) ∧ ∃ ps, DataW.Trod enc P W 0 (fun _ => true) true t v d ps
variable {t e : TypeId} {v : Value} {d : DataW H}
theorem In.string (h : In enc P W t v d) (ht : P.underlying t = some .string) : ∃ s : ByteArray, v = .string s ∧ d = .lit (.string s.data.toList) ∧ s.size ≤ maxLen := by
  obtain ⟨⟨b, hv⟩, ps, hd⟩ := h
  obtain ⟨s, h1, h2, _, h3⟩ := open_string ht hv hd
  exact ⟨s, h1, h2, h3⟩
theorem In.int {k : IntKind} (h : In enc P W t v d) (ht : P.underlying t = some (.int k)) : ∃ n, v = .int k n ∧ d = .lit (.int k n) ∧ (Lit.int k n).wf = true := by
  obtain ⟨⟨b, hv⟩, ps, hd⟩ := h
  obtain ⟨s, h1, h2, _, h3⟩ := open_int ht hv hd
  exact ⟨s, h1, h2, h3⟩
theorem In.bool (h : In enc P W t v d) (ht : P.underlying t = some .bool) : ∃ x, v = .bool x ∧ d = .lit (.bool x) := by
  obtain ⟨⟨b, hv⟩, ps, hd⟩ := h
  obtain ⟨s, h1, h2, _⟩ := open_bool ht hv hd
  exact ⟨s, h1, h2⟩
/-- How a slice's datum looks: its elements, its spare ones. -/
def Long (d : DataW H) (n c : Nat) : Prop := (d = .nil ∧ n = 0 ∧ c = 0) ∨ ∃ a b, d = .slice a b ∧ a.length = n ∧ n + b.length = c
theorem In.strings (h : In enc P W t v d) (ht : P.underlying t = some (.slice e)) (he : P.underlying e = some .string) (hc : P.cellsOf e = 1) :
    ∃ (A : Option Addr) (n c : Nat) (ss : List ByteArray), v = .slice A n c ∧ ss.length = n ∧ n ≤ c ∧ c ≤ maxLen ∧ Rd W W.heap.size A (ss.map Value.string) ∧ (∀ s ∈ ss, s.size ≤ maxLen) ∧ Long d n c ∧ (d = .nil ∧ ss = [] ∨ ∃ b, d = .slice (strs ss) b) := by
  obtain ⟨⟨b, hv⟩, ps, fuel, hf⟩ := h
  obtain ⟨A, n, c, rfl⟩ := okWide_slice ht hv
  rcases open_strings ht he hc hf with ⟨hcs, hx⟩ | ⟨a, len, cap, ss, hcs, _, hl, hm, hss, hx, hcell, hw⟩
  · simp [Value.cells] at hcs
    obtain ⟨rfl, rfl, rfl⟩ := hcs
    simp only [Prod.mk.injEq] at hx
    exact ⟨none, 0, 0, [], rfl, rfl, Nat.le_refl _, by simp [maxLen], Rd.nil, by simp, .inl ⟨hx.1, rfl, rfl⟩, .inl ⟨hx.1, rfl⟩⟩
  · simp [Value.cells] at hcs
    obtain ⟨rfl, rfl, rfl⟩ := hcs
    simp only [Prod.mk.injEq] at hx
    obtain ⟨rfl, _⟩ := hx
    have hs' : ss.length = c := by simpa using hss
    refine ⟨some a, n, c, ss.take n, rfl, by rw [List.length_take]; omega, hl, hm, rd_of fun i v hi => ?_, fun s hs => hw s (List.mem_of_mem_take hs), .inr ⟨_, _, rfl, by simp [strs]; omega, by simp [strs]; omega⟩, .inr ⟨_, rfl⟩⟩
    rw [List.getElem?_map, List.getElem?_take] at hi
    split at hi
    · rename_i hin
      have hlt : i < ss.length := by omega
      have := hcell i hlt
      rw [List.getD_eq_getElem?_getD, List.getElem?_eq_getElem hlt] at this
      rw [List.getElem?_eq_getElem hlt] at hi
      simp at hi
      subst hi
      exact this
    · simp at hi
theorem In.ints {k : IntKind} (h : In enc P W t v d) (ht : P.underlying t = some (.slice e)) (he : P.underlying e = some (.int k)) (hc : P.cellsOf e = 1) :
    ∃ (A : Option Addr) (n c : Nat) (zs : List Int), v = .slice A n c ∧ zs.length = n ∧ n ≤ c ∧ c ≤ maxLen ∧ Rd W W.heap.size A (zs.map (Value.int k)) ∧ (∀ z ∈ zs, (Lit.int k z).wf = true) ∧ Long d n c := by
  obtain ⟨⟨b, hv⟩, ps, fuel, hf⟩ := h
  obtain ⟨A, n, c, rfl⟩ := okWide_slice ht hv
  rcases open_ints ht he hc hf with ⟨hcs, hx⟩ | ⟨a, len, cap, ss, hcs, _, hl, hm, hss, hx, hcell, hw⟩
  · simp [Value.cells] at hcs
    obtain ⟨rfl, rfl, rfl⟩ := hcs
    simp only [Prod.mk.injEq] at hx
    exact ⟨none, 0, 0, [], rfl, rfl, Nat.le_refl _, by simp [maxLen], Rd.nil, by simp, .inl ⟨hx.1, rfl, rfl⟩⟩
  · simp [Value.cells] at hcs
    obtain ⟨rfl, rfl, rfl⟩ := hcs
    simp only [Prod.mk.injEq] at hx
    obtain ⟨rfl, _⟩ := hx
    have hs' : ss.length = c := by simpa using hss
    refine ⟨some a, n, c, ss.take n, rfl, by rw [List.length_take]; omega, hl, hm, rd_of fun i v hi => ?_, fun s hs => hw s (List.mem_of_mem_take hs), .inr ⟨_, _, rfl, by simp [lits]; omega, by simp [lits]; omega⟩⟩
    rw [List.getElem?_map, List.getElem?_take] at hi
    split at hi
    · rename_i hin
      have hlt : i < ss.length := by omega
      have := hcell i hlt
      rw [List.getD_eq_getElem?_getD, List.getElem?_eq_getElem hlt] at this
      rw [List.getElem?_eq_getElem hlt] at hi
      simp at hi
      subst hi
      exact this
    · simp at hi
/-- A slice of whatever: each element's cells, and how it reads. -/
theorem In.slice (h : In enc P W t v d) (ht : P.underlying t = some (.slice e)) (hpos : 0 < P.cellsOf e) :
    ∃ (A : Option Addr) (n c : Nat), v = .slice A n c ∧ n ≤ c ∧ c ≤ maxLen ∧ Long d n c ∧ ∀ i, i < n → ∃ (b o : Nat) (cs : List Value) (di : DataW H) (fuel : Nat) (ps : List MemPlace), A = some ⟨b, o, none⟩ ∧ b < W.heap.size ∧ cs.length = P.cellsOf e ∧
      (∀ j u, cs[j]? = some u → W.cell? ⟨b, o + (i * P.cellsOf e + j), none⟩ = some u) ∧ DataW.trod enc P W 0 (fun _ => true) true fuel e cs = some (di, ps) ∧ (∃ xs ys, d = .slice xs ys ∧ xs[i]? = some di) := by
  obtain ⟨⟨b, hv⟩, ps, fuel, hf⟩ := h
  obtain ⟨A, n, c, rfl⟩ := okWide_slice ht hv
  rcases Go.Deep.open_slice ht hf with ⟨hcs, hx⟩ | ⟨a, len, cap, m, k, D, Pl, hcs, _, hl, hm, hmm, hx, hi⟩
  · simp [Value.cells] at hcs
    obtain ⟨rfl, rfl, rfl⟩ := hcs
    simp only [Prod.mk.injEq] at hx
    exact ⟨none, 0, 0, rfl, Nat.le_refl _, by simp [maxLen], .inl ⟨hx.1, rfl, rfl⟩, fun i hi => by omega⟩
  · simp [Value.cells] at hcs
    obtain ⟨rfl, rfl, rfl⟩ := hcs
    simp only [Prod.mk.injEq] at hx
    obtain ⟨rfl, _⟩ := hx
    have hm' : m = c := by simpa using hmm
    subst hm'
    refine ⟨some a, n, m, rfl, hl, hm, .inr ⟨_, _, rfl, by simp, by simp; omega⟩, fun i hin => ?_⟩
    obtain ⟨cs, hc, ht'⟩ := hi i (by omega)
    obtain ⟨_, hlen, hat⟩ := World.cells?_some hc
    obtain ⟨u0, hu0⟩ : ∃ u, cs[0]? = some u := ⟨_, List.getElem?_eq_getElem (by omega)⟩
    have hs' : a.spot = none := by
      obtain ⟨cs1, hc1, _⟩ := hi 0 (by omega)
      obtain ⟨_, hlen1, hat1⟩ := World.cells?_some hc1
      have := hat1 0 hpos
      rw [List.getElem?_eq_getElem (by omega)] at this
      have hh : W.cell? a = some (cs1[0]'(by omega)) := by simpa [Addr.add] using this
      exact World.cell?_spot hh
    obtain ⟨ab, ao, asp⟩ := a
    simp only at hs'
    subst hs'
    have e1 : ∀ x y, ((Addr.add ⟨ab, ao, none⟩ x).add y) = ⟨ab, ao + (x + y), none⟩ := fun x y => by
      unfold Addr.add
      by_cases hx : x = 0 <;> by_cases hy : y = 0 <;> simp [hx, hy, Nat.add_assoc]
    have hcell : ∀ j u, cs[j]? = some u → W.cell? ⟨ab, ao + (i * P.cellsOf e + j), none⟩ = some u := fun j u hj => by
      have hjl := (List.getElem?_eq_some_iff.1 hj).1
      have := hat j (by omega)
      rw [e1, hj] at this
      exact this
    exact ⟨ab, ao, cs, D i, k, Pl i, rfl, cell_lt (hcell 0 u0 hu0), hlen, hcell, ht', _, _, rfl, by rw [List.getElem?_map, List.getElem?_range hin]; rfl⟩
/-- A struct's cells, where each field is one. -/
theorem fields_of {fs : Array Field} {cs : List Value} {di : DataW H} {fuel : Nat} {ps : List MemPlace} (he : P.underlying e = some (.struct fs)) (hone : Go.Deep.oneCellFields P fs = true) (hl : cs.length = fs.size)
    (h : DataW.trod enc P W 0 (fun _ => true) true fuel e cs = some (di, ps)) : ∀ (j : Nat) (f : Field), fs[j]? = some f → ∃ (u : Value) (n : Nat) (y : DataW H × List MemPlace), cs[j]? = some u ∧ DataW.trod enc P W 0 (fun _ => true) true n f.type [u] = some y := by
  intro j f hj
  obtain ⟨xs, n, _, _, _, hxl, hf⟩ := DataW.trod_struct he h
  obtain ⟨ho, hk⟩ := Go.Deep.hone_of hone j f hj
  have hjl : j < fs.size := (Array.getElem?_eq_some_iff.1 hj).1
  have hu : cs[j]? = some (cs[j]'(by omega)) := List.getElem?_eq_getElem (by omega)
  refine ⟨_, n, xs[j]'(by omega), hu, ?_⟩
  have h1 := hf j f hj
  rw [ho, hk, List.drop_eq_getElem_cons (by omega)] at h1
  rw [List.getElem?_eq_getElem (by omega)] at h1
  have h2 : (cs[j]'(by omega) :: cs.drop (j + 1)).take 1 = [cs[j]'(by omega)] := rfl
  rw [h2] at h1
  exact h1
theorem okWide_array {n : Nat} {r : Reach} {base : Nat} (ht : P.underlying t = some (.array n e)) (h : Value.okWide P W r base t v) : ∃ cs, v = .agg cs ∧ cs.size = P.cellsOf t := by
  simp only [Value.okWide, ht] at h
  obtain ⟨cs, h1, h2, _⟩ := h
  exact ⟨cs, h1, h2⟩
theorem In.ints3 {k : IntKind} (h : In enc P W t v d) (ht : P.underlying t = some (.array 3 e)) (hct : P.cellsOf t = 3) (he : P.underlying e = some (.int k)) (hc : P.cellsOf e = 1) :
    ∃ a b c, v = .agg #[.int k a, .int k b, .int k c] ∧ (Lit.int k a).wf = true ∧ (Lit.int k b).wf = true ∧ (Lit.int k c).wf = true := by
  obtain ⟨⟨b, hv⟩, ps, fuel, hf⟩ := h
  obtain ⟨cs, rfl, hs⟩ := okWide_array ht hv
  rw [hct] at hs
  obtain ⟨l⟩ := cs
  match l, hs with
  | [c0, c1, c2], _ =>
    obtain ⟨y0, y1, y2, n, _, h0, h1, h2⟩ := trod_array3 ht hc (by simpa [Value.cells] using hf)
    obtain ⟨z0, e0, _, w0⟩ := DataW.trod_int he h0
    obtain ⟨z1, e1, _, w1⟩ := DataW.trod_int he h1
    obtain ⟨z2, e2, _, w2⟩ := DataW.trod_int he h2
    simp at e0 e1 e2
    subst e0 e1 e2
    exact ⟨z0, z1, z2, rfl, w0, w1, w2⟩
end

/-- A law's way to true, nothing of what was there turned. -/
def TrueBelow (w : World) (e : Ending) (w' : World) : Prop := e = .returned (.bool true) ∧ Below w.heap.size w w'

theorem ret_bool {a b : Bool} (h : a = b) : Ending.returned (.bool a) = .returned (.bool b) := by rw [h]

/-! How a law is proved whose walk turns nothing of what was there. -/
section
variable {H : Type} {enc : TypeId × Value → H} {P : Program}
theorem trodAll_below (hl : laidOutB P = true) {W W' : World} (hb : Below W.heap.size W W') : ∀ (ts : List TypeId) (vs : List Value) (ds : List (DataW H)) (ps : List MemPlace), (∀ t ∈ ts, P.readableRec t = true ∧ t < P.types.size) →
    DataW.TrodAll enc P W 0 (fun _ => true) true ts vs ds ps → DataW.TrodAll enc P W' 0 (fun b => decide (b < W.heap.size)) true ts vs ds ps
  | [], vs, ds, ps, _, h => by
    obtain ⟨rfl, rfl, rfl⟩ := trodAll_nil h
    exact trodAll_mk0
  | t :: ts, vs, ds, ps, hr, h => by
    obtain ⟨v, vs', d, ds', p, q, rfl, rfl, rfl, h0, r0⟩ := trodAll_cons h
    have lt0 : ∀ x ∈ p, x.block < W.heap.size := by obtain ⟨m, hm⟩ := h0; exact DataW.trod_lt m _ _ _ hm
    exact trodAll_cons_mk (Below.trod hl (hr t (by simp)).1 (hr t (by simp)).2 h0 hb lt0) (trodAll_below hl hb ts vs' ds' q (fun u hu => hr u (by simp [hu])) r0)

theorem post_law {f : Func} {s : ChangeSpec} {W W' : World} {args : Array Value} {ds : List (DataW H)} {before : List MemPlace} {tb : TypeId}
    (hl : laidOutB P = true) (hr : ∀ t ∈ f.params.toList, P.readableRec t = true ∧ t < P.types.size) (hs : s.vars = []) (hres : f.resultTypes = #[tb]) (htb : P.underlying tb = some .bool)
    (hW : DataW.Whole enc P f.params.toList s.vars false W args.toList ds [] before) (hfn : s.fn H (ds ++ []) = { results := [.lit (.bool true)], args := ds })
    (hb : Below W.heap.size W W') : s.post enc P f false true false false W args (.bool true) W' := by
  have hW' := hW
  obtain ⟨p, q, hA, hV, hp, _, _⟩ := hW
  refine ⟨ds, [], before, [], p, [], hW', ?_, ?_, ?_, hb.frame _, fun h => by cases h⟩
  · rw [hres, hfn]
    exact trodAll_mk1 (shut_bool htb _)
  · rw [hfn]
    exact trodAll_below hl hb _ _ _ _ hr hA
  · rw [hfn, hs]
    exact rfl
end
end Go.Proofs.YtciogfpejenedaaGreatDoor
