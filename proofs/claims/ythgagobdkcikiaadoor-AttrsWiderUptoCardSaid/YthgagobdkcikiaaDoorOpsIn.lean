/- A list of calls that came in: each one's cells. -/
import Derived.Test.YthgagobdkcikiaaDoorStM
import Derived.Test.YthgagobdkcikiaaDoorUp
namespace Go.Proofs.YthgagobdkcikiaaDoor
set_option linter.unusedSimpArgs false
set_option linter.unusedVariables false
open Go.RowKit Go.ChangeShapes Go.WideShapes

section
variable {H : Type} {enc : TypeId × Value → H} {W : World}
theorem trod_strings {P : Program} {t e : TypeId} {fuel : Nat} {u : Value} {y : DataW H × List MemPlace} (ht : P.underlying t = some (.slice e)) (he : P.underlying e = some .string) (hc : P.cellsOf e = 1) (hf : DataW.trod enc P W 0 (fun _ => true) true fuel t [u] = some y) :
    ∃ (A : Option Addr) (c : Nat) (ss : List ByteArray), u = .slice A ss.length c ∧ ss.length ≤ c ∧ c ≤ maxLen ∧ Rd W W.heap.size A (ss.map Value.string) ∧ (∀ s ∈ ss, s.size ≤ maxLen) ∧ (A = none → ss = [] ∧ c = 0) := by
  rcases open_strings ht he hc hf with ⟨hcs, hx⟩ | ⟨a, len, cap, ss, hcs, _, hl, hm, hss, hx, hcell, hw⟩
  · simp at hcs
    subst hcs
    exact ⟨none, 0, [], rfl, Nat.le_refl _, by simp [maxLen], Rd.nil, by simp, fun _ => ⟨rfl, rfl⟩⟩
  · simp at hcs
    subst hcs
    have hs' : ss.length = cap := by simpa using hss
    have e1 : (ss.take len).length = len := by rw [List.length_take]; omega
    refine ⟨some a, cap, ss.take len, by rw [e1], by omega, hm, rd_of fun i v hi => ?_, fun s hs => hw s (List.mem_of_mem_take hs), fun h => by cases h⟩
    rw [List.getElem?_map, List.getElem?_take] at hi
    split at hi
    · rename_i hin
      have hlt : i < ss.length := by omega
      have := hcell i hlt
      rw [List.getD_eq_getElem?_getD, List.getElem?_eq_getElem hlt] at this
      rw [List.getElem?_eq_getElem hlt] at hi
      simp at hi
      subst hi
      exact this
    · simp at hi
/-- One call's cells. -/
structure OpC (W : World) (kind id : Int) (key : ByteArray) (k n : Int) (s : ByteArray) (A : Option Addr) (l : List ByteArray) (c : Nat) (how : Int) (txt : ByteArray) : Prop where
  id_ : okI id
  k_ : okI k
  n_ : okI n
  how_ : okI how
  key_ : key.size ≤ maxLen
  s_ : s.size ≤ maxLen
  txt_ : txt.size ≤ maxLen
  rd : Rd W W.heap.size A (l.map Value.string)
  le : l.length ≤ c
  max : c ≤ maxLen
  nil : A = none → l = [] ∧ c = 0
def opCells (kind id : Int) (key : ByteArray) (k n : Int) (s : ByteArray) (A : Option Addr) (l : List ByteArray) (c : Nat) (how : Int) (txt : ByteArray) : List Value :=
  [.int .i64 kind, .int .i64 id, .string key, .int .i64 k, .int .i64 n, .string s, .slice A l.length c, .int .i64 how, .string txt]
theorem four_of {cs : List Value} (h : cs.length = 4) : ∃ a b c d, cs = [a, b, c, d] := by
  match cs, h with
  | [a, b, c, d], _ => exact ⟨a, b, c, d, rfl⟩
theorem nine_of {cs : List Value} (h : cs.length = 9) : ∃ a b c d e f g i j, cs = [a, b, c, d, e, f, g, i, j] := by
  match cs, h with
  | [a, b, c, d, e, f, g, i, j], _ => exact ⟨a, b, c, d, e, f, g, i, j, rfl⟩
theorem cells9 : Tryd.prog.cellsOf 39 = 9 := by kernel_rfl
theorem cells4 : Tryd.prog.cellsOf 37 = 4 := by kernel_rfl
theorem cellsI : Tryd.prog.cellsOf 3 = 1 := by kernel_rfl
theorem cellsS : Tryd.prog.cellsOf 9 = 1 := by kernel_rfl
theorem cellsL : Tryd.prog.cellsOf 25 = 1 := by kernel_rfl
set_option maxRecDepth 100000 in
theorem op_of {fuel : Nat} {cs : List Value} {di : DataW H} {ps : List MemPlace} (h : DataW.trod enc Tryd.prog W 0 (fun _ => true) true fuel 39 cs = some (di, ps)) :
    ∃ kind id key k n s A l c how txt, cs = opCells kind id key k n s A l c how txt ∧ OpC W kind id key k n s A l c how txt := by
  obtain ⟨xs, f1, _, _, hl, hxl, hf⟩ := DataW.trod_struct Tryd.underlying39 h
  rw [cells9] at hl
  obtain ⟨c0, c1, c2, c3, c4, c5, c6, c7, c8, rfl⟩ := nine_of hl
  have hx6 : xs.length = 6 := hxl
  match xs, hx6, hf with
  | [x0, x1, x2, x3, x4, x5], _, hf =>
    have g0 := hf 0 _ rfl
    have g1 := hf 1 _ rfl
    have g2 := hf 2 _ rfl
    have g3 := hf 3 _ rfl
    have g4 := hf 4 _ rfl
    have g5 := hf 5 _ rfl
    have k1 := cellsI
    have k2 := cellsS
    have k4 := cells4
    simp only [k1, k2, k4, List.drop_zero, List.drop_succ_cons, List.take_succ_cons, List.take_zero, List.getElem?_cons_zero, List.getElem?_cons_succ] at g0 g1 g2 g3 g4 g5
    obtain ⟨z0, e0, _, w0⟩ := DataW.trod_int Tryd.underlying3 g0
    obtain ⟨z1, e1, _, w1⟩ := DataW.trod_int Tryd.underlying3 g1
    obtain ⟨s2, e2, _, w2⟩ := DataW.trod_string Tryd.underlying9 g2
    obtain ⟨z4, e4, _, w4⟩ := DataW.trod_int Tryd.underlying3 g4
    obtain ⟨s5, e5, _, w5⟩ := DataW.trod_string Tryd.underlying9 g5
    obtain ⟨ys, f2, _, _, _, hyl, hg⟩ := DataW.trod_struct Tryd.underlying37 g3
    have hy4 : ys.length = 4 := hyl
    match ys, hy4, hg with
    | [y0, y1, y2, y3], _, hg =>
      have v0 := hg 0 _ rfl
      have v1 := hg 1 _ rfl
      have v2 := hg 2 _ rfl
      have v3 := hg 3 _ rfl
      have k5 := cellsL
      simp only [k1, k2, k5, List.drop_zero, List.drop_succ_cons, List.take_succ_cons, List.take_zero, List.getElem?_cons_zero, List.getElem?_cons_succ] at v0 v1 v2 v3
      obtain ⟨u0, a0, _, b0⟩ := DataW.trod_int Tryd.underlying3 v0
      obtain ⟨u1, a1, _, b1⟩ := DataW.trod_int Tryd.underlying3 v1
      obtain ⟨u2, a2, _, b2⟩ := DataW.trod_string Tryd.underlying9 v2
      obtain ⟨A, c, l, rfl, l1, l2, l3, l4, l5⟩ := trod_strings Tryd.underlying25 Tryd.underlying9 k2 v3
      injection e0 with e0
      injection e1 with e1
      injection e2 with e2
      injection e4 with e4
      injection e5 with e5
      injection a0 with a0
      injection a1 with a1
      injection a2 with a2
      subst e0 e1 e2 e4 e5 a0 a1 a2
      exact ⟨z0, z1, s2, u0, u1, u2, A, l, c, z4, s5, rfl, w1, b0, b1, w4, w2, b2, w5, l3, l1, l2, l5⟩
/-- A list of calls that came in. -/
def OpsAt (W : World) (A : Option Addr) (n : Nat) : Prop := ∀ i, i < n → ∃ b o kind id key k m s A' l c' how txt, A = some ⟨b, o, none⟩ ∧ b < W.heap.size ∧
  (∀ j u, (opCells kind id key k m s A' l c' how txt)[j]? = some u → W.cell? ⟨b, o + (i * 9 + j), none⟩ = some u) ∧ OpC W kind id key k m s A' l c' how txt
theorem ops_in {v : Value} {d : DataW H} (h : In enc Tryd.prog W 35 v d) : ∃ (A : Option Addr) (n c : Nat), v = .slice A n c ∧ n ≤ c ∧ c ≤ maxLen ∧ Long d n c ∧ OpsAt W A n := by
  obtain ⟨A, n, c, rfl, h1, h2, h3, h4⟩ := h.slice Tryd.underlying35 (by rw [cells9]; omega)
  refine ⟨A, n, c, rfl, h1, h2, h3, fun i hi => ?_⟩
  obtain ⟨b, o, cs, di, fuel, ps, e, hb, _, hc, ht, _⟩ := h4 i hi
  obtain ⟨kind, id, key, k, m, s, A', l, c', how, txt, rfl, hop⟩ := op_of ht
  rw [cells9] at hc
  exact ⟨b, o, kind, id, key, k, m, s, A', l, c', how, txt, e, hb, hc, hop⟩
end
end Go.Proofs.YthgagobdkcikiaaDoor
