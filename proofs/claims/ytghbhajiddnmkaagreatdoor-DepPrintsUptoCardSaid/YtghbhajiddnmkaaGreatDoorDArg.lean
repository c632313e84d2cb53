/- A dependency among the arguments, as a tree. -/
import Derived.Test.YtghbhajiddnmkaaGreatDoorDNames
import Derived.Test.YtghbhajiddnmkaaGreatDoorRows
import Derived.Deep.Grids
namespace Go.Proofs.YtghbhajiddnmkaaGreatDoor
set_option linter.unusedSimpArgs false
set_option linter.unusedVariables false
open Go.RowKit Go.ChangeShapes Go.WideShapes

theorem bulk_pos {H : Type} (d : DataW H) : 1 ≤ Rows.uptoBulk d := by
  cases d with
  | lit l => cases l <;> simp [Rows.uptoBulk]
  | nil => simp [Rows.uptoBulk]
  | ptr d => simp [Rows.uptoBulk]
  | slice a b => simp [Rows.uptoBulk]
  | agg l => simp [Rows.uptoBulk]
  | iface t d => simp [Rows.uptoBulk]
  | map l => simp [Rows.uptoBulk]
  | held h => simp [Rows.uptoBulk]
theorem bulk_in {H : Type} {d : DataW H} : ∀ {l : List (DataW H)} {i : Nat}, l[i]? = some d → Rows.uptoBulk d ≤ Rows.uptoBulkAll l
  | [], i, h => by cases h
  | x :: l, 0, h => by
    simp at h; subst h
    simp only [Rows.uptoBulkAll]; omega
  | x :: l, i + 1, h => by
    have := bulk_in (l := l) (i := i) (by simpa using h)
    simp only [Rows.uptoBulkAll]; omega
theorem list_of {α : Type} : ∀ (n : Nat) (P : Nat → α → Prop), (∀ i, i < n → ∃ x, P i x) → ∃ l : List α, l.length = n ∧ ∀ i x, l[i]? = some x → P i x
  | 0, P, _ => ⟨[], rfl, fun i x h => by cases h⟩
  | n + 1, P, h => by
    obtain ⟨l, h1, h2⟩ := list_of n P fun i hi => h i (by omega)
    obtain ⟨x, hx⟩ := h n (by omega)
    refine ⟨l ++ [x], by simp [h1], fun i y hy => ?_⟩
    by_cases hi : i < n
    · rw [List.getElem?_append_left (by omega)] at hy
      exact h2 i y hy
    · have hl := (List.getElem?_eq_some_iff.1 hy).1
      simp at hl
      have : i = n := by omega
      subst this
      rw [List.getElem?_append_right (by omega), h1, Nat.sub_self] at hy
      simp at hy; subst hy
      exact hx
theorem nodesA_bulk {H : Type} : ∀ (l : List Dep) (xs : List (DataW H)), l.length ≤ xs.length → (∀ (i : Nat) (d : Dep) (x : DataW H), l[i]? = some d → xs[i]? = some x → nodes d ≤ Rows.uptoBulk x) → nodesA l ≤ Rows.uptoBulkAll xs
  | [], xs, _, _ => by simp [nodesA]
  | d :: l, [], h, _ => by simp at h
  | d :: l, x :: xs, h, hi => by
    have h1 := hi 0 d x rfl rfl
    have h2 := nodesA_bulk l xs (by simpa using h) fun i d' x' a b => hi (i + 1) d' x' (by simpa using a) (by simpa using b)
    simp only [nodesA, Rows.uptoBulkAll]
    omega
theorem smalls_of : ∀ (l : List Dep), (∀ d ∈ l, small d) → smalls l
  | [], _ => trivial
  | d :: l, h => ⟨h d (by simp), smalls_of l fun x hx => h x (by simp [hx])⟩
section
variable {H : Type} {enc : TypeId × Value → H} {P : Program} {W : World} {t e : TypeId} {fuel : Nat} {cs : List Value} {d : DataW H} {ps : List MemPlace}
theorem slice_trod (ht : P.underlying t = some (.slice e)) (hpos : 0 < P.cellsOf e) (hf : DataW.trod enc P W 0 (fun _ => true) true fuel t cs = some (d, ps)) :
    ∃ (A : Option Addr) (n c : Nat), cs = [.slice A n c] ∧ n ≤ c ∧ c ≤ maxLen ∧ (A = none → c = 0) ∧ ((n = 0 ∧ d = .nil) ∨ ∃ a b, d = .slice a b ∧ a.length = n) ∧ ∀ i, i < n → ∃ (b o : Nat) (cs' : List Value) (di : DataW H) (fuel : Nat) (ps : List MemPlace), A = some ⟨b, o, none⟩ ∧ b < W.heap.size ∧ cs'.length = P.cellsOf e ∧
      (∀ j u, cs'[j]? = some u → W.cell? ⟨b, o + (i * P.cellsOf e + j), none⟩ = some u) ∧ DataW.trod enc P W 0 (fun _ => true) true fuel e cs' = some (di, ps) ∧ (∃ xs ys, d = .slice xs ys ∧ xs[i]? = some di) := by
  rcases Go.Deep.open_slice ht hf with ⟨hcs, hx⟩ | ⟨a, len, cap, m, k, D, Pl, hcs, _, hl, hm, hmm, hx, hi⟩
  · simp only [Prod.mk.injEq] at hx
    exact ⟨none, 0, 0, hcs, Nat.le_refl _, by simp [maxLen], fun _ => rfl, .inl ⟨rfl, hx.1⟩, fun i hi => by omega⟩
  · simp only [Prod.mk.injEq] at hx
    obtain ⟨rfl, _⟩ := hx
    have hm' : m = cap := by simpa using hmm
    subst hm'
    refine ⟨some a, len, m, hcs, hl, hm, fun h => (by cases h), .inr ⟨_, _, rfl, by simp⟩, fun i hin => ?_⟩
    obtain ⟨cs', hc, ht'⟩ := hi i (by omega)
    obtain ⟨_, hlen, hat⟩ := World.cells?_some hc
    obtain ⟨u0, hu0⟩ : ∃ u, cs'[0]? = some u := ⟨_, List.getElem?_eq_getElem (by omega)⟩
    have hs' : a.spot = none := by
      obtain ⟨cs1, hc1, _⟩ := hi 0 (by omega)
      obtain ⟨_, hlen1, hat1⟩ := World.cells?_some hc1
      have := hat1 0 hpos
      rw [List.getElem?_eq_getElem (by omega)] at this
      have hh : W.cell? a = some (cs1[0]'(by omega)) := by simpa [Addr.add] using this
      exact World.cell?_spot hh
    obtain ⟨ab, ao, asp⟩ := a
    simp only at hs'
    subst hs'
    have e1 : ∀ x y, ((Addr.add ⟨ab, ao, none⟩ x).add y) = ⟨ab, ao + (x + y), none⟩ := fun x y => by
      unfold Addr.add
      by_cases hx : x = 0 <;> by_cases hy : y = 0 <;> simp [hx, hy, Nat.add_assoc]
    have hcell : ∀ j u, cs'[j]? = some u → W.cell? ⟨ab, ao + (i * P.cellsOf e + j), none⟩ = some u := fun j u hj => by
      have hjl := (List.getElem?_eq_some_iff.1 hj).1
      have := hat j (by omega)
      rw [e1, hj] at this
      exact this
    exact ⟨ab, ao, cs', D i, k, Pl i, rfl, cell_lt (hcell 0 u0 hu0), hlen, hcell, ht', _, _, rfl, by rw [List.getElem?_map, List.getElem?_range hin]; rfl⟩
end
set_option maxRecDepth 100000 in
/-- What an argument's cells hold. -/
theorem dep_trod {H : Type} {enc : TypeId × Value → H} {W : World} : ∀ (N fuel : Nat) (cs : List Value) (di : DataW H) (ps : List MemPlace), Rows.uptoBulk di ≤ N → DataW.trod enc Tryz.prog W 0 (fun _ => true) true fuel 24 cs = some (di, ps) →
    ∃ (D : Dep) (s : Value), cs = [.int .i64 D.kind, .string D.name, .int .i64 D.op, .string D.evr, s] ∧ Lay W (fun b => b < W.heap.size) D s ∧ nodes D ≤ Rows.uptoBulk di ∧ (Rows.uptoBulk di ≤ 2147483648 → small D)
  | 0, fuel, cs, di, ps, hN, h => by have := bulk_pos di; omega
  | N + 1, fuel, cs, di, ps, hN, h => by
    obtain ⟨xs, n, _, hx, hl, hxl, hf⟩ := DataW.trod_struct Tryz.underlying24 h
    have hl5 : cs.length = 5 := hl.trans (by kernel_rfl)
    have hx5 : xs.length = 5 := hxl.trans (by kernel_rfl)
    have k3 : Tryz.prog.cellsOf 3 = 1 := by kernel_rfl
    have k9 : Tryz.prog.cellsOf 9 = 1 := by kernel_rfl
    have k22 : Tryz.prog.cellsOf 22 = 1 := by kernel_rfl
    have k24 : Tryz.prog.cellsOf 24 = 5 := by kernel_rfl
    match cs, hl5, xs, hx5, hx, hf with
    | [c0, c1, c2, c3, c4], _, [x0, x1, x2, x3, x4], _, hx, hf =>
      have h0 := hf 0 _ rfl
      have h1 := hf 1 _ rfl
      have h2 := hf 2 _ rfl
      have h3 := hf 3 _ rfl
      have h4 := hf 4 _ rfl
      simp only [k3, k9, k22, List.drop_zero, List.drop_succ_cons, List.take_succ_cons, List.take_zero, List.getElem?_cons_zero, List.getElem?_cons_succ] at h0 h1 h2 h3 h4
      obtain ⟨K, e0, y0, _⟩ := DataW.trod_int Tryz.underlying3 h0
      obtain ⟨nm, e1, y1, _⟩ := DataW.trod_string Tryz.underlying9 h1
      obtain ⟨o, e2, y2, _⟩ := DataW.trod_int Tryz.underlying3 h2
      obtain ⟨ev, e3, y3, _⟩ := DataW.trod_string Tryz.underlying9 h3
      obtain ⟨d4, p4⟩ := x4
      obtain ⟨A, m, c, e4, hmc, hcm, hA, hd4, hel⟩ := slice_trod Tryz.underlying22 (by rw [k24]; omega) h4
      injection e0 with e0
      injection e1 with e1
      injection e2 with e2
      injection e3 with e3
      injection e4 with e4
      subst e0 e1 e2 e3 e4
      simp only [Prod.mk.injEq] at hx
      have hbulk : Rows.uptoBulk di = (1 + ((nm.data.toList.length + 1) + (1 + ((ev.data.toList.length + 1) + (Rows.uptoBulk d4 + 0))))) + 1 := by
        rw [hx.1, y0, y1, y2, y3]
        simp [Rows.uptoBulk, Rows.uptoBulkAll]
      have hrec : ∀ i, i < m → ∃ D : Dep, ∃ b o' s', A = some ⟨b, o', none⟩ ∧ b < W.heap.size ∧ CellsD W b (o' + i * 5) D s' ∧ Lay W (fun b => b < W.heap.size) D s' ∧ ∃ xs ys di, d4 = .slice xs ys ∧ xs[i]? = some di ∧ nodes D ≤ Rows.uptoBulk di ∧ (Rows.uptoBulk di ≤ 2147483648 → small D) := by
        intro i hi
        obtain ⟨b, o', cs', di', f', ps', a1, a2, a3, a4, a5, xs', ys', a6, a7⟩ := hel i hi
        have hb : Rows.uptoBulk di' ≤ N := by
          have := bulk_in a7
          rw [a6] at hbulk
          simp only [Rows.uptoBulk] at hbulk
          omega
        obtain ⟨D, s', q1, q2, q3, q4⟩ := dep_trod N f' cs' di' ps' hb a5
        subst q1
        rw [k24] at a4
        exact ⟨D, b, o', s', a1, a2, ⟨a4 0 _ rfl, a4 1 _ rfl, a4 2 _ rfl, a4 3 _ rfl, a4 4 _ rfl⟩, q2, xs', ys', di', a6, a7, q3, q4⟩
      obtain ⟨L, hL1, hL2⟩ := list_of m _ hrec
      refine ⟨.mk K nm o ev L, .slice A m c, rfl, ?_, ?_, fun hsm => ?_⟩
      · rw [lay_iff]
        refine ⟨A, c, by simp only [Dep.args]; rw [hL1], by simp only [Dep.args]; omega, ⟨hcm, hA⟩, fun j a hj => ?_⟩
        obtain ⟨b, o', s', a1, a2, a3, a4, _⟩ := hL2 j a hj
        exact ⟨b, o', s', a1, a2, a3, a4⟩
      · simp only [nodes]
        rcases hd4 with ⟨hm0, hn⟩ | ⟨a, b, hs, hal⟩
        · have : L = [] := List.eq_nil_of_length_eq_zero (by omega)
          subst this
          simp only [nodesA]; omega
        · have := nodesA_bulk L a (by omega) fun i d x hi hx' => by
            obtain ⟨b', o', s', a1, a2, a3, a4, xs', ys', di', a6, a7, a8, _⟩ := hL2 i d hi
            rw [hs] at a6
            injection a6 with a6
            subst a6
            rw [hx'] at a7
            injection a7 with a7
            subst a7
            exact a8
          rw [hs] at hbulk
          simp only [Rows.uptoBulk] at hbulk
          omega
      · refine ⟨?_, ?_, smalls_of L fun d hd => ?_⟩
        · rw [← size_len]; omega
        · rw [← size_len]; omega
        · obtain ⟨i, hi⟩ := List.mem_iff_getElem?.1 hd
          obtain ⟨b', o', s', a1, a2, a3, a4, xs', ys', di', a6, a7, a8, a9⟩ := hL2 i d hi
          have := bulk_in a7
          rw [a6] at hbulk
          simp only [Rows.uptoBulk] at hbulk
          exact a9 (by omega)
end Go.Proofs.YtghbhajiddnmkaaGreatDoor
