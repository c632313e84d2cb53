/- Parts of the proof. -/
import Derived.Test.YtdhgiammfpjniaaGreatDoorZrbs
import Derived.Test.YtdhgiammfpjniaaGreatDoorZrbt
namespace Go.Proofs.YtdhgiammfpjniaaGreatDoor
set_option linter.unusedSimpArgs false
set_option linter.unusedVariables false
open Go.RowKit Go.MapKept
def AccSt (w0 w : World) (g m : Nat) (r : Bs) (acc : List Sk) : Prop := MeanM w w0.heap.size m ∧ ((acc = [] ∧ AllM w0 w w0.heap.size g r (.slice none 0 0) []) ∨ ∃ b1 pb cap ys x, acc = ys.map Sk5.S ++ [x.S] ∧ SuM w0 w w0.heap.size g b1 r pb cap ys x ∧ GoodK x.S ∧ wtK x.S + r.length ≤ 40000)
def SlR (g m : Nat) (v7 : Value) (act : Act) : Prop := ∃ T : Array Value, T.size = 96 ∧ T[0]? = some (.pointer (some ⟨g, 0, none⟩)) ∧ T[3]? = some (.map (some m)) ∧ T[7]? = some v7 ∧ act = { tmps := T, defers := [] }
set_option maxRecDepth 100000 in
theorem SlR.lit {g m : Nat} {v7 : Value} {act : Act} (h : SlR g m v7 act) : ∃ U : Nat → Value, act = { tmps := #[.pointer (some ⟨g, 0, none⟩), U 1, U 2, .map (some m), U 4, U 5, U 6, v7, U 8, U 9, U 10, U 11, U 12, U 13, U 14, U 15, U 16, U 17, U 18, U 19, U 20, U 21, U 22, U 23, U 24, U 25, U 26, U 27, U 28, U 29, U 30, U 31, U 32, U 33, U 34, U 35, U 36, U 37, U 38, U 39, U 40, U 41, U 42, U 43, U 44, U 45, U 46, U 47, U 48, U 49, U 50, U 51, U 52, U 53, U 54, U 55, U 56, U 57, U 58, U 59, U 60, U 61, U 62, U 63, U 64, U 65, U 66, U 67, U 68, U 69, U 70, U 71, U 72, U 73, U 74, U 75, U 76, U 77, U 78, U 79, U 80, U 81, U 82, U 83, U 84, U 85, U 86, U 87, U 88, U 89, U 90, U 91, U 92, U 93, U 94, U 95], defers := [] } := by
 obtain ⟨T, hs, h0, h3, h7, rfl⟩ := h
 refine ⟨fun i => T[i]?.getD undef, ?_⟩
 have e : T = #[.pointer (some ⟨g, 0, none⟩), T[1]?.getD undef, T[2]?.getD undef, .map (some m), T[4]?.getD undef, T[5]?.getD undef, T[6]?.getD undef, v7, T[8]?.getD undef, T[9]?.getD undef, T[10]?.getD undef, T[11]?.getD undef, T[12]?.getD undef, T[13]?.getD undef, T[14]?.getD undef, T[15]?.getD undef, T[16]?.getD undef, T[17]?.getD undef, T[18]?.getD undef, T[19]?.getD undef, T[20]?.getD undef, T[21]?.getD undef, T[22]?.getD undef, T[23]?.getD undef, T[24]?.getD undef, T[25]?.getD undef, T[26]?.getD undef, T[27]?.getD undef, T[28]?.getD undef, T[29]?.getD undef, T[30]?.getD undef, T[31]?.getD undef, T[32]?.getD undef, T[33]?.getD undef, T[34]?.getD undef, T[35]?.getD undef, T[36]?.getD undef, T[37]?.getD undef, T[38]?.getD undef, T[39]?.getD undef, T[40]?.getD undef, T[41]?.getD undef, T[42]?.getD undef, T[43]?.getD undef, T[44]?.getD undef, T[45]?.getD undef, T[46]?.getD undef, T[47]?.getD undef, T[48]?.getD undef, T[49]?.getD undef, T[50]?.getD undef, T[51]?.getD undef, T[52]?.getD undef, T[53]?.getD undef, T[54]?.getD undef, T[55]?.getD undef, T[56]?.getD undef, T[57]?.getD undef, T[58]?.getD undef, T[59]?.getD undef, T[60]?.getD undef, T[61]?.getD undef, T[62]?.getD undef, T[63]?.getD undef, T[64]?.getD undef, T[65]?.getD undef, T[66]?.getD undef, T[67]?.getD undef, T[68]?.getD undef, T[69]?.getD undef, T[70]?.getD undef, T[71]?.getD undef, T[72]?.getD undef, T[73]?.getD undef, T[74]?.getD undef, T[75]?.getD undef, T[76]?.getD undef, T[77]?.getD undef, T[78]?.getD undef, T[79]?.getD undef, T[80]?.getD undef, T[81]?.getD undef, T[82]?.getD undef, T[83]?.getD undef, T[84]?.getD undef, T[85]?.getD undef, T[86]?.getD undef, T[87]?.getD undef, T[88]?.getD undef, T[89]?.getD undef, T[90]?.getD undef, T[91]?.getD undef, T[92]?.getD undef, T[93]?.getD undef, T[94]?.getD undef, T[95]?.getD undef] := by
  apply Array.ext
  ·rw [hs]; rfl
  ·intro i h1 h2
   have hi : i < 96 := by omega
   have ht : T[i]? = some T[i] := Array.getElem?_eq_getElem h1
   have key : ∀ j : Nat, j < 96 → (#[.pointer (some ⟨g, 0, none⟩), T[1]?.getD undef, T[2]?.getD undef, .map (some m), T[4]?.getD undef, T[5]?.getD undef, T[6]?.getD undef, v7, T[8]?.getD undef, T[9]?.getD undef, T[10]?.getD undef, T[11]?.getD undef, T[12]?.getD undef, T[13]?.getD undef, T[14]?.getD undef, T[15]?.getD undef, T[16]?.getD undef, T[17]?.getD undef, T[18]?.getD undef, T[19]?.getD undef, T[20]?.getD undef, T[21]?.getD undef, T[22]?.getD undef, T[23]?.getD undef, T[24]?.getD undef, T[25]?.getD undef, T[26]?.getD undef, T[27]?.getD undef, T[28]?.getD undef, T[29]?.getD undef, T[30]?.getD undef, T[31]?.getD undef, T[32]?.getD undef, T[33]?.getD undef, T[34]?.getD undef, T[35]?.getD undef, T[36]?.getD undef, T[37]?.getD undef, T[38]?.getD undef, T[39]?.getD undef, T[40]?.getD undef, T[41]?.getD undef, T[42]?.getD undef, T[43]?.getD undef, T[44]?.getD undef, T[45]?.getD undef, T[46]?.getD undef, T[47]?.getD undef, T[48]?.getD undef, T[49]?.getD undef, T[50]?.getD undef, T[51]?.getD undef, T[52]?.getD undef, T[53]?.getD undef, T[54]?.getD undef, T[55]?.getD undef, T[56]?.getD undef, T[57]?.getD undef, T[58]?.getD undef, T[59]?.getD undef, T[60]?.getD undef, T[61]?.getD undef, T[62]?.getD undef, T[63]?.getD undef, T[64]?.getD undef, T[65]?.getD undef, T[66]?.getD undef, T[67]?.getD undef, T[68]?.getD undef, T[69]?.getD undef, T[70]?.getD undef, T[71]?.getD undef, T[72]?.getD undef, T[73]?.getD undef, T[74]?.getD undef, T[75]?.getD undef, T[76]?.getD undef, T[77]?.getD undef, T[78]?.getD undef, T[79]?.getD undef, T[80]?.getD undef, T[81]?.getD undef, T[82]?.getD undef, T[83]?.getD undef, T[84]?.getD undef, T[85]?.getD undef, T[86]?.getD undef, T[87]?.getD undef, T[88]?.getD undef, T[89]?.getD undef, T[90]?.getD undef, T[91]?.getD undef, T[92]?.getD undef, T[93]?.getD undef, T[94]?.getD undef, T[95]?.getD undef] : Array Value)[j]? = some ((T[j]?).getD undef) := by
    intro j hj
    match j, hj with
    | 0, _ => rw [h0]; rfl
    | 1, _ => rfl
    | 2, _ => rfl
    | 3, _ => rw [h3]; rfl
    | 4, _ => rfl
    | 5, _ => rfl
    | 6, _ => rfl
    | 7, _ => rw [h7]; rfl
    | 8, _ => rfl
    | 9, _ => rfl
    | 10, _ => rfl
    | 11, _ => rfl
    | 12, _ => rfl
    | 13, _ => rfl
    | 14, _ => rfl
    | 15, _ => rfl
    | 16, _ => rfl
    | 17, _ => rfl
    | 18, _ => rfl
    | 19, _ => rfl
    | 20, _ => rfl
    | 21, _ => rfl
    | 22, _ => rfl
    | 23, _ => rfl
    | 24, _ => rfl
    | 25, _ => rfl
    | 26, _ => rfl
    | 27, _ => rfl
    | 28, _ => rfl
    | 29, _ => rfl
    | 30, _ => rfl
    | 31, _ => rfl
    | 32, _ => rfl
    | 33, _ => rfl
    | 34, _ => rfl
    | 35, _ => rfl
    | 36, _ => rfl
    | 37, _ => rfl
    | 38, _ => rfl
    | 39, _ => rfl
    | 40, _ => rfl
    | 41, _ => rfl
    | 42, _ => rfl
    | 43, _ => rfl
    | 44, _ => rfl
    | 45, _ => rfl
    | 46, _ => rfl
    | 47, _ => rfl
    | 48, _ => rfl
    | 49, _ => rfl
    | 50, _ => rfl
    | 51, _ => rfl
    | 52, _ => rfl
    | 53, _ => rfl
    | 54, _ => rfl
    | 55, _ => rfl
    | 56, _ => rfl
    | 57, _ => rfl
    | 58, _ => rfl
    | 59, _ => rfl
    | 60, _ => rfl
    | 61, _ => rfl
    | 62, _ => rfl
    | 63, _ => rfl
    | 64, _ => rfl
    | 65, _ => rfl
    | 66, _ => rfl
    | 67, _ => rfl
    | 68, _ => rfl
    | 69, _ => rfl
    | 70, _ => rfl
    | 71, _ => rfl
    | 72, _ => rfl
    | 73, _ => rfl
    | 74, _ => rfl
    | 75, _ => rfl
    | 76, _ => rfl
    | 77, _ => rfl
    | 78, _ => rfl
    | 79, _ => rfl
    | 80, _ => rfl
    | 81, _ => rfl
    | 82, _ => rfl
    | 83, _ => rfl
    | 84, _ => rfl
    | 85, _ => rfl
    | 86, _ => rfl
    | 87, _ => rfl
    | 88, _ => rfl
    | 89, _ => rfl
    | 90, _ => rfl
    | 91, _ => rfl
    | 92, _ => rfl
    | 93, _ => rfl
    | 94, _ => rfl
    | 95, _ => rfl
    | n + 96, h => omega
   have k2 := key i hi
   rw [ht] at k2
   rw [Array.getElem?_eq_getElem h2] at k2
   injection k2 with k2
   exact k2.symm
 exact congrArg (fun t => ({ tmps := t, defers := [] } : Act)) e
def JQ (w0 : World) (g m : Nat) (X : Except Int (List Sk)) (l n : Nat) (act : Act) (w : World) : Prop :=
 ∃ r acc k v7, r.length ≤ 40000 ∧ AccSt w0 w g m r acc ∧ SlR g m v7 act ∧ (aaQm r).length < k ∧
   ((l = 0 ∧ n = 2 * r.length + 1 ∧ readS k (aaQm r) acc = X) ∨
    (l = 1 ∧ n = 2 * r.length + 2 ∧ ∃ v : Bs, v7 = .string (mkS v) ∧ v.length ≤ 40000 ∧ (match abQk acc v with
       | .error e => .error e
       | .ok a => readS k (aaQm r) a) = X))
theorem MeanM.weak {w : World} {B B' m : Nat} (h : MeanM w B m) (hb : B' ≤ B) : MeanM w B' m := by
 obtain ⟨l, h1, h2⟩ := h
 refine ⟨l, h1, fun t => ?_⟩
 have h3 := h2 t
 revert h3
 generalize (lookO (mkS t) l).getD .nilFunc = v
 cases mgOf t with
 | none => exact fun h => h
 | vnd => exact fun h => h
 | fls => exact fun h => h
 | dep i => exact fun ⟨a, b, h1, h2⟩ => ⟨a, b, Nat.le_trans hb h1, h2⟩
theorem AccSt.whole {w0 w : World} {g m : Nat} {r : Bs} {acc : List Sk} (h : AccSt w0 w g m r acc) (hT : Ev.Tabs w0) : Calls Tryz.prog 71 #[.pointer (some ⟨g, 0, none⟩)] w fun e w' => e = .returned (.int .i64 (aaQ4 acc)) ∧ Below w.heap.size w w' := by
 obtain ⟨_, ⟨rfl, hA⟩ | ⟨b1, pb, cap, ys, x, rfl, hS, hG, _⟩⟩ := h
 ·exact aoQg hA.rd
 ·have e : aaQ4 (ys.map Sk5.S ++ [x.S]) = chkS x.S := aeQf _ _ (by simp)
  rw [e]
  exact apQ3 hS (hT.below hS.bel hT.two) hG
theorem AccSt.all {w0 w : World} {g m : Nat} {r : Bs} {acc : List Sk} (h : AccSt w0 w g m r acc) : ∃ A c xs, AllM w0 w w0.heap.size g r (.slice A xs.length c) xs ∧ acc = xs.map Sk5.S := by
 obtain ⟨_, ⟨rfl, hA⟩ | ⟨b1, pb, cap, ys, x, rfl, hS, hG, _⟩⟩ := h
 ·exact ⟨none, 0, [], hA, rfl⟩
 ·refine ⟨some ⟨pb, 0, none⟩, cap, ys ++ [x], ?_, by rw [List.map_append]; rfl⟩
  have := hS.all
  rw [List.length_append]
  exact this
theorem AccSt.below {w0 w w' : World} {g m : Nat} {r : Bs} {acc : List Sk} (h : AccSt w0 w g m r acc) (hb : Below w.heap.size w w') : AccSt w0 w' g m r acc := by
 obtain ⟨hm, ⟨rfl, hA⟩ | ⟨b1, pb, cap, ys, x, rfl, hS, hG, hw⟩⟩ := h
 ·exact ⟨hm.below hb, .inl ⟨rfl, hA.below hb⟩⟩
 ·exact ⟨hm.below hb, .inr ⟨b1, pb, cap, ys, x, rfl, hS.below hb, hG, hw⟩⟩
theorem AccSt.bel {w0 w : World} {g m : Nat} {r : Bs} {acc : List Sk} (h : AccSt w0 w g m r acc) : Below w0.heap.size w0 w := by
 obtain ⟨hm, ⟨rfl, hA⟩ | ⟨b1, pb, cap, ys, x, rfl, hS, hG, hw⟩⟩ := h
 ·exact hA.bel
 ·exact hS.bel
theorem AccSt.rd {w0 w : World} {g m : Nat} {r : Bs} {acc : List Sk} (h : AccSt w0 w g m r acc) : ∃ A c, RdR w g r (.slice A acc.length c) ∧ w0.heap.size ≤ g := by
 obtain ⟨A, c, xs, hA, rfl⟩ := h.all
 exact ⟨A, c, by rw [List.length_map]; exact hA.rd, hA.le.1⟩
theorem AccSt.line {w0 w w' : World} {g m : Nat} {r r' : Bs} {acc : List Sk} {v : Value} (h : AccSt w0 w g m r acc) (hv : RdR w g r v) (ht : Turned [g] w w') (hr : RdR w' g r' v) (hl : r'.length ≤ r.length) : AccSt w0 w' g m r' acc := by
 have hmean : MeanM w' w0.heap.size m := h.1.turned ht (fun b cs hb hm => by
  rw [List.mem_singleton.1 hm] at hb
  exact Blk.kind hb hv (by decide) rfl) (fun hm => by
  obtain ⟨l, hl, _⟩ := h.1
  exact acQz hl hv (List.mem_singleton.1 hm))
 obtain ⟨hm, ⟨rfl, hA⟩ | ⟨b1, pb, cap, ys, x, rfl, hS, hG, hw⟩⟩ := h
 ·have e : v = .slice none 0 0 := by
   have h1 := Blk.cell hv 1
   have h2 := Blk.cell hA.rd 1
   rw [h1] at h2
   simpa using h2
  subst e
  exact ⟨hmean, .inl ⟨rfl, hr, World.ownsRow_nil _ _ _ _, (fun y hy => by cases hy), ⟨hA.le.1, Nat.le_trans hA.le.2 ht.size⟩, hA.bel.trans (ht.below (fun k hk => by rw [List.mem_singleton.1 hk]; exact hA.le.1) hA.le.2)⟩⟩
 ·have e : v = .slice (some ⟨pb, 0, none⟩) (ys.length + 1) cap := by
   have h1 := Blk.cell hv 1
   have h2 := Blk.cell hS.rd 1
   rw [h1] at h2
   simpa using h2
  subst e
  exact ⟨hmean, .inr ⟨b1, pb, cap, ys, x, rfl, hS.line ht hr, hG, by omega⟩⟩
theorem AccSt.begun {w0 w w' : World} {g m : Nat} {r : Bs} {acc a : List Sk} {xs : List Sk5} {e : Ending} (h : AccSt w0 w g m r acc) (hr : r.length ≤ 40000) (hb : adQk w0 w w0.heap.size g r xs (.ok a) e w') : e = .returned (.int .i64 0) ∧ AccSt w0 w' g m r a := by
 obtain ⟨rfl, a1, b1, d1, pb, cap, bb, rfl, hS, R, hT, hR⟩ := hb
 refine ⟨rfl, h.1.turned hT (fun b cs hb hm => ?_) (fun hm => ?_), .inr ⟨bb, pb, cap, xs, newX a1 b1 d1, rfl, hS, (fun i hi d hd => by cases hd), ?_⟩⟩
 ·obtain ⟨t, cs', hb', h3⟩ := hR b hm
  refine Blk.kind hb hb' ?_ rfl
  rcases h3 with rfl | rfl <;> decide
 ·obtain ⟨l, hl, _⟩ := h.1
  obtain ⟨t, cs', hb', _⟩ := hR m hm
  exact acQz hl hb' rfl
 ·show wtK (newS a1 b1 d1) + _ ≤ _
  have : wtK (newS a1 b1 d1) = 0 := rfl
  omega
theorem aiQ8 (l : Bs) : (mkS l).toList = l := by
 rw [ByteArray.toList_eq]
 rfl
theorem eqB (a b : Bs) : (a == b) = decide (a = b) := by
 by_cases h : a = b
 ·subst h; simp
 ·simp [h]
theorem eqS (a b : UInt8) : (([a] : Bs) == [b]) = decide (a = b) := by
 rw [eqB]
 by_cases h : a = b
 ·subst h; simp
 ·simp [h]
theorem aoQ5 {l : Bs} (h : l.length ≤ 40000) : (acQl l).2.1.length ≤ 40000 ∧ (acQl l).2.2.1.length ≤ 40000 := by
 obtain ⟨h1, h2, _⟩ := agQr 58 (l.drop 1)
 have h3 : (l.drop 1).length ≤ l.length := by simp
 have h4 : (aaQ2 (Lib.cut (l.drop 1) [58]).2.1).length ≤ (Lib.cut (l.drop 1) [58]).2.1.length := by
  unfold aaQ2
  split
  ·simp
  ·exact Nat.le_refl _
 unfold acQl
 dsimp only
 split
 ·exact ⟨by show (Lib.cut (l.drop 1) [58]).1.length ≤ _; omega, by show (aaQ2 _).length ≤ _; omega⟩
 ·split
  ·exact ⟨by show (Lib.cut (l.drop 1) [58]).1.length ≤ _; omega, by show (Lib.cut (l.drop 1) [58]).2.1.length ≤ _; omega⟩
  ·exact ⟨by show (Lib.cut (l.drop 1) [58]).1.length ≤ _; omega, by show (Lib.cut (l.drop 1) [58]).2.1.length ≤ _; omega⟩
theorem ajQ0 {m : Mg} (hm : ∀ i, m = .dep i → i < 7) : ∀ {vs : List Bs} {S S' : Sk}, putM m vs S = some S' → wtK S' ≤ wtK S + vs.length
 | [], S, S', h => by injection h with h; rw [← h]; exact Nat.le_refl _
 | v :: r, S, S', h => by
   have h : (match actM m S v with | some S1 => putM m r S1 | none => none) = some S' := h
   cases ha : actM m S v with
   | none => rw [ha] at h; cases h
   | some S1 =>
     rw [ha] at h
     have h1 := wt_act hm ha
     have h2 := ajQ0 hm h
     rw [List.length_cons]
     omega
theorem mg_nil {w : World} {B : Nat} {mg : Mg} {v : Value} (h : MgV w B mg v) (hv : v = .nilFunc) : mg = .none := by
 cases mg with
 | none => rfl
 | vnd => rw [hv] at h; cases h
 | fls => rw [hv] at h; cases h
 | dep i =>
   obtain ⟨_, b, _, h2, _⟩ := h
   rw [hv] at h2
   cases h2
theorem mg_lt {w : World} {B : Nat} {mg : Mg} {v : Value} (h : MgV w B mg v) (i : Nat) (hi : mg = .dep i) : i < 7 := by
 subst hi
 exact h.1
theorem AccSt.wt {w0 w : World} {g m : Nat} {r : Bs} {acc : List Sk} (h : AccSt w0 w g m r acc) (l : List Sk) (S : Sk) (e : acc = l ++ [S]) : wtK S + r.length ≤ 40000 := by
 obtain ⟨_, ⟨h0, _⟩ | ⟨b1, pb, cap, ys, x, h0, _, _, hw⟩⟩ := h
 ·rw [h0] at e
  have := congrArg List.length e
  simp at this
 ·rw [h0] at e
  have e2 := congrArg List.getLast? e
  simp at e2
  rw [← e2]
  exact hw
theorem last_put (t : Bs) (vs : List Bs) (l : List Sk) (S : Sk) : lastT t vs (l ++ [S]) = (putT t vs S).map fun S' => l ++ [S'] := by
 rw [ahQk t vs l [S] (by simp)]
 show (match putT t vs S with | some S' => some [S'] | none => none).map _ = _
 cases putT t vs S <;> rfl
theorem anQd (t : Bs) (vs : List Bs) (l : List Sk) (S : Sk) (k : List Sk → Except Int (List Sk)) : thenS (lastT t vs (l ++ [S])) k = match putM (mgOf t) vs S with
 | some S' => k (l ++ [S'])
 | none => .error 130 := by
 rw [last_put]
 unfold putT
 cases putM (mgOf t) vs S <;> rfl
theorem vals_one {W : World} {vb : Nat} {sd : Bs} {fs : Value} (h : Blk W vb 9 #[.string (mkS sd)]) (hf : fs.ownBlock ≠ some vb) : VsAt W (some ⟨vb, 0, none⟩) [sd] fs :=
 .inr ⟨vb, rfl, ⟨_, h⟩, fun j p hj => by
  match j, hj with
  | 0, hj =>
    injection hj with hj
    rw [← hj]
    exact h.cell 0
  | j + 1, hj => simp at hj, hf⟩
theorem vals_row {w : World} {B : Nat} {A : Option Addr} {c : Nat} {vs : List Bs} {fs : Value} (h : w.ownsRow B 9 1 (.slice A vs.length c) vs.length (strR vs)) (hf : ∀ k, fs.ownBlock = some k → k < B) : VsAt w A vs fs := by
 by_cases hv : vs = []
 ·exact .inl hv
 ·obtain ⟨v0, hv0⟩ : ∃ v, vs[0]? = some v := ⟨_, List.getElem?_eq_getElem (List.length_pos_iff.2 hv)⟩
  have hat : ∀ (j : Nat) (p : Bs), vs[j]? = some p → (strR vs)[j]? = some (.string (mkS p)) := fun j p hp => by
   show (vs.map _)[j]? = _
   rw [List.getElem?_map, hp]
   rfl
  obtain ⟨b, rfl, _⟩ := acQ7 h (hat 0 v0 hv0)
  obtain ⟨cs, hb⟩ := own_blk h (k := b) rfl
  refine .inr ⟨b, rfl, ⟨cs, hb⟩, fun j p hp => ?_, fun e => ?_⟩
  ·obtain ⟨b', e, hc⟩ := acQ7 h (hat j p hp)
   injection e with e
   injection e with e
   subst e
   exact hc
  ·have h1 := hf b e
   have h2 := (h.lt b rfl).1
   omega
def Drn (W w : World) : Prop := ∃ q, w = W.drewN q
theorem Drn.drewN {W w : World} (h : Drn W w) (n : Nat) : Drn W (w.drewN n) := by
 obtain ⟨q, rfl⟩ := h
 exact ⟨q + n, by simp [World.drewN, Nat.add_assoc]⟩
theorem Drn.below {W w : World} (h : Drn W w) {B : Nat} : Below B W w := by
 obtain ⟨q, rfl⟩ := h
 exact aaQs (Below.refl _ _) q
theorem anQw {w0 W : World} {B g b1 : Nat} {r : Bs} {pb cap : Nat} {ys : List Sk5} {x : Sk5} (h : SuM w0 W B g b1 r pb cap ys x) (w : World) (hw : Drn W w) : Calls Tryz.prog 77 #[.pointer (some ⟨g, 0, none⟩)] w fun e w' => e = .returned (.pointer (some ⟨pb, ys.length * 12, none⟩)) ∧ Drn W w' :=
 (anQx (h.below hw.below)).mono fun e w' ⟨h1, n, h2⟩ => ⟨h1, by rw [h2]; exact hw.drewN n⟩
theorem anQr {W : World} {m : Nat} {l : List (ByteArray × Value)} (h : W.heap[m]? = some (mapO l)) (k : ByteArray) (w : World) (hw : Drn W w) : (Instr.lookup 112 (.map (some m)) (.string k) false).run Tryz.prog w = .ok ((lookO k l).getD .nilFunc) w := by
 obtain ⟨q, rfl⟩ := hw
 exact run_look Tryz.underlying112 Tryz.underlying9 zeroMn h
theorem aqQs {w0 W : World} {B g b1 m Bm : Nat} {r : Bs} {pb cap : Nat} {ys : List Sk5} {x : Sk5} (hD : afQk) (hT : Ev.Tabs w0) (hB : B = w0.heap.size) {mg : Mg} {fv : Value} {A : Option Addr} {c : Nat} {vs : List Bs} (hs : SuM w0 W B g b1 r pb cap ys x) (hm : MeanM W Bm m) (hg : MgV W Bm mg fv) (hv : VsAt W A vs x.fs) (hlen : ∀ p ∈ vs, p.length ≤ 40000) (hw : wtK x.S + vs.length ≤ 100000) (w : World) (hw' : Drn W w) :
 Calls Tryz.prog 76 #[.pointer (some ⟨pb, ys.length * 12, none⟩), fv, .slice A vs.length c] w (ajQz w0 B g b1 r pb cap ys m Bm (putM mg vs x.S)) := by
 obtain ⟨q, rfl⟩ := hw'
 exact put_any hD hT hB ⟨hs.below (aaQs (Below.refl _ _) q), hm, hg, hv⟩ hlen hw (mg_nil hg)
end Go.Proofs.YtdhgiammfpjniaaGreatDoor
