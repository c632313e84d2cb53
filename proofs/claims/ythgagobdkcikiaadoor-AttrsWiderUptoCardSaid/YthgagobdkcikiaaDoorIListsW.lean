/- The contracts of the document's lists: chandlerref01.Has, Put1. -/
import Derived.Test.YthgagobdkcikiaaDoorIWords
import Derived.Test.YthgagobdkcikiaaDoorISrt
import Derived.Deep.QuietTactic
import Derived.BigQuiet
import Derived.Deep.RegionLaw
namespace Go.Proofs.YthgagobdkcikiaaDoor.Ids
set_option linter.unusedSimpArgs false
set_option linter.unusedVariables false
open Go.RowKit

theorem notmem_snoc {l m : List Int} {x y : Int} (e : m = l ++ [y]) (h : x ∉ l) (hy : ¬ y = x) : x ∉ m := by
  subst e
  intro hh
  rcases List.mem_append.1 hh with h1 | h1
  · exact h h1
  · exact hy (List.mem_singleton.1 h1).symm
theorem lt_snoc {l m : List Int} {x y : Int} (e : m = l ++ [y]) (h : ∀ z ∈ l, z < x) (hy : y < x) : ∀ z ∈ m, z < x := by
  subst e
  intro z hz
  rcases List.mem_append.1 hz with h1 | h1
  · exact h z h1
  · rw [List.mem_singleton.1 h1]; exact hy
def BoolPost (w : World) (b : Bool) (e : Ending) (w' : World) : Prop := e = .returned (.bool b) ∧ w' = w

theorem has_any (A : Option Addr) (c B n : Nat) (x : Int) (xs : List Int) (w : World) (hl : xs.length = n) (hn : n ≤ 140737488355328) (hr : Rd w B A (i64s xs)) :
    Calls Tryd.prog 32 #[.slice A n c, .int .i64 x] w (BoolPost w (decide (x ∈ xs))) := by
  have HL := Lib.hid hl
  clear hl
  go_enter Tryd.func32, Tryd.ntmps32
  go_wp2
  go_loop [5] (fun i => ∃ k : Nat, k ≤ n ∧ i = .int .i64 (k : Int) ∧ Hid (x ∉ xs.take k)) (fun i => n - (intOf i).toNat)
  case atStart => exact ⟨0, by omega, rfl, by simp [Hid]⟩
  case round =>
    obtain ⟨k, hk, rfl, hx⟩ := hrel
    by_cases hlt : k < n
    · have hk1 : k < xs.length := by rw [HL.out]; exact hlt
      have hlt' : (k : Int) < (n : Int) := by omega
      obtain ⟨b, o, rfl, _, hc⟩ := hr k (.int .i64 (xs[k]'hk1)) (by simp [i64s, List.getElem?_eq_getElem hk1])
      have e1 : Hid (xs.take (k + 1) = xs.take k ++ [xs[k]'hk1]) := (List.take_append_getElem hk1).symm
      have e2 : Hid (xs[k]'hk1 ∈ xs) := List.getElem_mem hk1
      generalize xs[k]'hk1 = y at hc e1 e2
      by_cases hxy : y = x
      · subst hxy
        have he : (y == y) = true := by simp
        clear hr
        go_wp2
        go_ret
        exact ⟨by rw [decide_eq_true e2.out]; rfl, rfl⟩
      · have he : (y == x) = false := by simpa using hxy
        have HX := Lib.hid hxy
        clear hxy hr
        go_wp2
        go_round
        case rel => go_light; exact ⟨k + 1, by omega, by go_num, notmem_snoc e1.out hx.out HX.out⟩
        case measure => go_light; simp only [intOf]; omega
    · have hlt' : ¬ (k : Int) < (n : Int) := by omega
      go_wp2
      go_ret
      have hd : x ∉ xs := by
        have := hx.out
        rwa [List.take_of_length_le (by have := HL.out; omega)] at this
      exact ⟨by rw [decide_eq_false hd]; rfl, rfl⟩

/-- A rising list with a number more. -/
def put1 (xs : List Int) (x : Int) : List Int :=
  if xs[(xs.takeWhile (· < x)).length]? = some x then xs else xs.takeWhile (· < x) ++ ([x] ++ xs.drop (xs.takeWhile (· < x)).length)

theorem tw_eq {x : Int} : ∀ (k : Nat) (xs : List Int), k ≤ xs.length → (∀ y ∈ xs.take k, y < x) → (∀ y, xs[k]? = some y → ¬ y < x) → xs.takeWhile (· < x) = xs.take k
  | 0, [], _, _, _ => rfl
  | 0, y :: r, _, _, h => by simp [List.takeWhile_cons, h y rfl]
  | k + 1, [], h, _, _ => by simp at h
  | k + 1, y :: r, hk, h1, h2 => by
    have hy : y < x := h1 y (by simp)
    rw [List.takeWhile_cons, if_pos (by simpa using hy), List.take_succ_cons, tw_eq k r (by simpa using hk) (fun z hz => h1 z (by simp [hz])) (fun z hz => h2 z (by simpa using hz))]
theorem put1_same {x : Int} {k : Nat} {xs : List Int} (hk : k ≤ xs.length) (h1 : ∀ y ∈ xs.take k, y < x) (h2 : xs[k]? = some x) : put1 xs x = xs := by
  have e := tw_eq k xs hk h1 (fun y hy => by rw [h2] at hy; injection hy with hy; omega)
  unfold put1
  rw [e, List.length_take, Nat.min_eq_left hk, if_pos h2]
theorem put1_new {x : Int} {k : Nat} {xs : List Int} (hk : k ≤ xs.length) (h1 : ∀ y ∈ xs.take k, y < x) (h2 : ∀ y, xs[k]? = some y → x < y) : put1 xs x = xs.take k ++ [x] ++ xs.drop k := by
  have e := tw_eq k xs hk h1 (fun y hy => by have := h2 y hy; omega)
  unfold put1
  rw [e, List.length_take, Nat.min_eq_left hk, if_neg (fun h => by have := h2 x h; omega), List.append_assoc]

/-- A slice that a call answers: its head, its length, its cells. -/
def Lst (w : World) (l : List Int) (e : Ending) (w' : World) : Prop :=
  ∃ A c, e = .returned (.slice A l.length c) ∧ l.length ≤ c ∧ c ≤ maxLen ∧ Rd w' w'.heap.size A (i64s l) ∧ Below w.heap.size w w'

theorem lst_own {w w' : World} {m : Nat} {v : Value} {l : List Int} (hown : w'.ownsRow w.heap.size 3 1 v m (i64s l)) (hb : Below w.heap.size w w') : Lst w l (.returned v) w' := by
  obtain ⟨hm, A, c, rfl, h1, h2⟩ := own_form hown
  rw [i64s_len] at hm
  subst hm
  exact ⟨A, c, rfl, h1, h2, Rd.own hown, hb⟩
theorem lst_fin {w w3 : World} {k m : Nat} {x : Int} {v : Value} {xs l : List Int} (hl : l = xs.take k ++ [x] ++ xs.drop k)
    (hown : w3.ownsRow w.heap.size 3 1 v m ((([] ++ (i64s xs).take k) ++ [.int .i64 x]) ++ (i64s xs).drop k)) (hb : Below w.heap.size w w3) : Lst w l (.returned v) w3 := by
  have e : ((([] ++ (i64s xs).take k) ++ [.int .i64 x]) ++ (i64s xs).drop k) = i64s l := by
    rw [hl, i64s_append, i64s_append]
    simp [i64s, List.map_take, List.map_drop]
  rw [e] at hown
  exact lst_own hown hb

theorem add_lit (b o k : Nat) : Addr.add ⟨b, o, none⟩ k = ⟨b, o + k, none⟩ := by
  unfold Addr.add
  split
  · rename_i h0; subst h0; rfl
  · rfl
theorem heap1 (w : World) (E : Obj) : (w.alloc E).heap[w.heap.size]? = some E := heap_alloc_new w E
theorem heap2 (w : World) (E F : Obj) : ((w.alloc E).alloc F).heap[w.heap.size]? = some E := (heap_alloc_old (w.alloc E) F (by simp)).trans (heap_alloc_new w E)
theorem heap2' (w : World) (E F : Obj) : ((w.alloc E).alloc F).heap[w.heap.size + 1]? = some F := by
  have := heap_alloc_new (w.alloc E) F
  simpa using this

theorem step_app {P : Program} {w : World} {ops : Array Oper} {o : Oper} {a : Act} {K : Act → World → Prop} {Q : Exit → Act → World → Prop} {E : Prop} (hgd : o.guard = none) (s x : Operand) (t : TypeId)
    (ho : o.op = .call { callee := .builtin .append, args := #[s, x], argTypes := #[t, t] })
    (e : TypeId) (i : TypeInfo) (z : Value) (bytes : Nat) (ht : P.underlying t = some (.slice e)) (hi : P.info? e = some i) (hz : i.zero = some z) (hsize : i.size = 1) (hby : i.bytes = bytes) (hzs : z.cells.size = 1)
    (base : Nat) (v : Value) (n : Nat) (xs : List Value) (hs : a.eval s = v) (hown : w.ownsRow base e 1 v n xs) (B : Nat) (A : Option Addr) (m c : Nat) (news : List Value) (hx : a.eval x = .slice A m c)
    (hl : news.length = m) (hr : Rd w B A news) (h1 : ∀ u ∈ news, u.oneCell' = true) (h63 : n + m ≤ maxLen) (hbytes : (n + m) * bytes ≤ 140737488355328) (hbase : base ≤ w.heap.size)
    (h : ∀ v' w', w'.ownsRow base e 1 v' (n + m) (xs ++ news) → Below base w w' → w.grownBy w' v.ownBlock → K (a.put o.dst v') w') :
    if Region.wanted o (yielded ops a.tmps) = true then Oper.wp P o a w K Q else E := by
  have hw : Region.wanted o (yielded ops a.tmps) = true := by simp [Region.wanted, hgd]
  rw [if_pos hw]
  obtain ⟨v', w', hrun, h2, h3, h4⟩ := run_app (P := P) w t o.type e i z bytes ht hi hz hsize hby hzs base v n xs hown B A m c news hl hr h1 h63 hbytes hbase
  unfold Oper.wp execOp
  simp only [ho, resolve, invoke, builtin, Sem.run_bind, Sem.run_pure, Result.andThen_ok, List.map_toArray, List.map_cons, List.map_nil, hs, hx, hrun]
  exact h v' w' h2 h3 h4

set_option maxHeartbeats 800000 in
set_option maxRecDepth 100000 in
theorem put1_any (A : Option Addr) (c n : Nat) (x : Int) (xs : List Int) (w : World) (hl : xs.length = n) (hn : n < 1048576 * 1048576) (hnc : n ≤ c) (hcm : c ≤ maxLen) (hr : Rd w w.heap.size A (i64s xs)) :
    Calls Tryd.prog 33 #[.slice A n c, .int .i64 x] w (Lst w (put1 xs x)) := by
  obtain ⟨i0, hi, hz0, hz1, hz2⟩ := info_parts info3
  unfold maxLen at hcm
  have HL := Lib.hid hl
  have HR := Lib.hid hr
  clear hl hr
  go_enter Tryd.func33, Tryd.ntmps33
  go_wp2
  go_loop [5] (fun i => ∃ k : Nat, k ≤ n ∧ i = .int .i64 (k : Int) ∧ Hid (∀ y ∈ xs.take k, y < x)) (fun i => n - (intOf i).toNat)
  case atStart => exact ⟨0, by omega, rfl, by simp [Hid]⟩
  case round =>
    obtain ⟨k, hk, rfl, hx⟩ := hrel
    by_cases hgo : ∃ hk1 : k < xs.length, xs[k]'hk1 < x
    · obtain ⟨hk1, hyx⟩ := hgo
      have hlt' : (k : Int) < (n : Int) := by have := HL.out; omega
      obtain ⟨b, o, rfl, _, hc⟩ := HR.out k (.int .i64 (xs[k]'hk1)) (by simp [i64s, List.getElem?_eq_getElem hk1])
      have e1 : Hid (xs.take (k + 1) = xs.take k ++ [xs[k]'hk1]) := (List.take_append_getElem hk1).symm
      generalize xs[k]'hk1 = y at hc e1 hyx
      clear hk1
      go_wp2
      go_round
      case rel => go_light; exact ⟨k + 1, by omega, by go_num, lt_snoc e1.out hx.out hyx⟩
      case measure => go_light; simp only [intOf]; omega
    · have hend : ∀ y, xs[k]? = some y → ¬ y < x := fun y hy hlt => hgo (by
        obtain ⟨h, e⟩ := List.getElem?_eq_some_iff.1 hy
        exact ⟨h, by rw [e]; exact hlt⟩)
      have hkx : k ≤ xs.length := by have := HL.out; omega
      by_cases hsame : xs[k]? = some x
      · have hkn : k < n := by have := (List.getElem?_eq_some_iff.1 hsame).1; have := HL.out; omega
        have hlt' : (k : Int) < (n : Int) := by omega
        obtain ⟨b, o, rfl, _, hc⟩ := HR.out k (.int .i64 x) (by simp [i64s, hsame])
        have HP := Lib.hid (put1_same hkx hx.out hsame)
        have hnlt : ¬ x < x := by omega
        have heq : (x == x) = true := by simp
        clear hgo hend hsame hkx
        go_wp2
        go_ret
        refine ⟨some ⟨b, o, none⟩, c, ?_, ?_, ?_, ?_, Below.refl _ _⟩
        · rw [HP.out, HL.out]; rfl
        · rw [HP.out, HL.out]; exact hnc
        · unfold maxLen; exact hcm
        · rw [HP.out]; exact HR.out
      · have hnew := put1_new hkx hx.out (fun y hy => by
          have h1 := hend y hy
          have h2 : y ≠ x := fun e => hsame (by rw [← e]; exact hy)
          omega)
        by_cases hkn : k < n
        · have hk1 : k < xs.length := by have := HL.out; omega
          have hlt' : (k : Int) < (n : Int) := by omega
          obtain ⟨b, o, rfl, _, hc⟩ := HR.out k (.int .i64 (xs[k]'hk1)) (by simp [i64s, List.getElem?_eq_getElem hk1])
          have hne := hend _ (List.getElem?_eq_getElem hk1)
          have hne2 : ((xs[k]'hk1) == x) = false := by simp; intro e; exact hsame (by rw [List.getElem?_eq_getElem hk1, e])
          generalize xs[k]'hk1 = y at hc hne hne2
          have HP := Lib.hid hnew
          clear hgo hend hsame hkx hk1 hnew
          go_wp2_with fail
          have hkc : k ≤ c := by omega
          have hkc' : (k : Int) ≤ (c : Int) := by omega
          have hkn' : (k : Int) ≤ (n : Int) := by omega
          have hnc' : (n : Int) ≤ (c : Int) := by omega
          have HT := Lib.hid (HR.out.take k)
          have HLT : Hid (((i64s xs).take k).length = k) := by show _ = _; rw [List.length_take, i64s_len]; have := HL.out; omega
          have HLD : Hid (((i64s xs).drop k).length = n - k) := by show _ = _; rw [List.length_drop, i64s_len]; have := HL.out; omega
          have hcut := HR.out.cut (c := c) (k := k) (by rw [i64s_len]; have := HL.out; omega)
          rw [show (Option.map (fun x : Addr => x.add k) (some ⟨b, o, none⟩)) = some ⟨b, o + k, none⟩ from congrArg some (add_lit b o k)] at hcut
          have HC := Lib.hid hcut
          clear hcut
          go_region_law (first
            | (refine step_app rfl (.tmp 33) (.tmp 36) 28 rfl 3 i0 (.int .i64 0) 8 Tryd.underlying28 hi hz0 hz1 hz2 rfl w.heap.size (.slice (some ⟨w.heap.size, 0, none⟩) 0 0) 0 [] (by simp [Act.eval, Act.put]) (own_at (by first | exact heap1 w _ | exact heap2 w _ _) (Nat.le_refl _)) w.heap.size (some ⟨b, o, none⟩) k c ((i64s xs).take k) (by simp [Act.eval, Act.put]) HLT.out (HT.out.below (B' := w.heap.size) (by repeat (first | exact Below.refl _ _ | apply Below.drew | refine Below.alloc ?_ (by simp; try omega) _)) (Nat.le_refl _)) (fun u hu => i64s_one xs u (List.mem_of_mem_take hu)) (by unfold maxLen; omega) (by omega) (by simp; try omega) ?_; intro v1 w1 hown1 hb1 hg1; have hB1 : Below w.heap.size w w1 := Below.trans (by repeat (first | exact Below.refl _ _ | apply Below.drew | refine Below.alloc ?_ (by simp; try omega) _)) hb1)
            | (refine step_app rfl (.tmp 33) (.tmp 36) 28 rfl 3 i0 (.int .i64 0) 8 Tryd.underlying28 hi hz0 hz1 hz2 rfl w.heap.size (.slice (some ⟨w.heap.size + 1, 0, none⟩) 0 0) 0 [] (by simp [Act.eval, Act.put]) (own_at (by exact heap2' w _ _) (by omega)) w.heap.size (some ⟨b, o, none⟩) k c ((i64s xs).take k) (by simp [Act.eval, Act.put]) HLT.out (HT.out.below (B' := w.heap.size) (by repeat (first | exact Below.refl _ _ | apply Below.drew | refine Below.alloc ?_ (by simp; try omega) _)) (Nat.le_refl _)) (fun u hu => i64s_one xs u (List.mem_of_mem_take hu)) (by unfold maxLen; omega) (by omega) (by simp; try omega) ?_; intro v1 w1 hown1 hb1 hg1; have hB1 : Below w.heap.size w w1 := Below.trans (by repeat (first | exact Below.refl _ _ | apply Below.drew | refine Below.alloc ?_ (by simp; try omega) _)) hb1)
            | (refine step_app rfl (.tmp 37) (.tmp 39) 28 rfl 3 i0 (.int .i64 0) 8 Tryd.underlying28 hi hz0 hz1 hz2 rfl w.heap.size v1 (0 + k) _ (by simp [Act.eval, Act.put]) (hown1.alloc _) (w1.heap.size + 1) (some ⟨w1.heap.size, 0, none⟩) 1 1 [.int .i64 x] (by simp [Act.eval, Act.put]) rfl (Rd.new1 w1 _ 3) (fun u hu => by simp at hu; subst hu; rfl) (by unfold maxLen; omega) (by omega) (by have := hB1.size; simp; omega) ?_; intro v2 w2 hown2 hb2 hg2; have hB2 : Below w.heap.size w w2 := (hB1.alloc hB1.size _).trans hb2)
            | (refine step_app rfl (.tmp 37) (.tmp 39) 28 rfl 3 i0 (.int .i64 0) 8 Tryd.underlying28 hi hz0 hz1 hz2 rfl w.heap.size v1 (0 + k) _ (by simp [Act.eval, Act.put]) hown1 (w.heap.size + 1 + 1) (some ⟨w.heap.size + 1, 0, none⟩) 1 1 [.int .i64 x] (by simp [Act.eval, Act.put]) rfl (Rd.at_ (t := 3) ((hg1.block (w.heap.size + 1) (by simp) (by simp [Value.ownBlock])).trans (heap2' w _ _))) (fun u hu => by simp at hu; subst hu; rfl) (by unfold maxLen; omega) (by omega) hB1.size ?_; intro v2 w2 hown2 hb2 hg2; have hB2 : Below w.heap.size w w2 := hB1.trans hb2)
            | (refine step_app rfl (.tmp 37) (.tmp 39) 28 rfl 3 i0 (.int .i64 0) 8 Tryd.underlying28 hi hz0 hz1 hz2 rfl w.heap.size v1 (0 + k) _ (by simp [Act.eval, Act.put]) hown1 (w.heap.size + 1) (some ⟨w.heap.size, 0, none⟩) 1 1 [.int .i64 x] (by simp [Act.eval, Act.put]) rfl (Rd.at_ (t := 3) ((hg1.block w.heap.size (by simp; try omega) (by simp [Value.ownBlock])).trans (heap2 w _ _))) (fun u hu => by simp at hu; subst hu; rfl) (by unfold maxLen; omega) (by omega) hB1.size ?_; intro v2 w2 hown2 hb2 hg2; have hB2 : Below w.heap.size w w2 := hB1.trans hb2)
            | (refine step_app rfl (.tmp 40) (.tmp 43) 28 rfl 3 i0 (.int .i64 0) 8 Tryd.underlying28 hi hz0 hz1 hz2 rfl w.heap.size v2 (0 + k + 1) _ (by simp [Act.eval, Act.put]) hown2 w.heap.size (if c = k then some ⟨b, o, none⟩ else some ⟨b, o + k, none⟩) (n - k) (c - k) ((i64s xs).drop k) (by simp [Act.eval, Act.put]) HLD.out (HC.out.below hB2 (Nat.le_refl _)) (fun u hu => i64s_one xs u (List.mem_of_mem_drop hu)) (by unfold maxLen; omega) (by omega) hB2.size ?_; intro v3 w3 hown3 hb3 hg3; have hB3 : Below w.heap.size w w3 := hB2.trans hb3))
          all_goals
            go_wp2
            all_goals
              go_ret
              exact lst_fin HP.out hown3 hB3
        · have hlt' : ¬ (k : Int) < (n : Int) := by omega
          have HP := Lib.hid hnew
          clear hgo hend hsame hkx hnew
          go_wp2_with fail
          have hkc : k ≤ c := by omega
          have hkc' : (k : Int) ≤ (c : Int) := by omega
          have hkn' : (k : Int) ≤ (n : Int) := by omega
          have hnc' : (n : Int) ≤ (c : Int) := by omega
          have HT := Lib.hid (HR.out.take k)
          have HLT : Hid (((i64s xs).take k).length = k) := by show _ = _; rw [List.length_take, i64s_len]; have := HL.out; omega
          have HLD : Hid (((i64s xs).drop k).length = n - k) := by show _ = _; rw [List.length_drop, i64s_len]; have := HL.out; omega
          have hcut := HR.out.cut (c := c) (k := k) (by rw [i64s_len]; have := HL.out; omega)
          have HC := Lib.hid hcut
          clear hcut
          go_region_law (first
            | (refine step_app rfl (.tmp 33) (.tmp 36) 28 rfl 3 i0 (.int .i64 0) 8 Tryd.underlying28 hi hz0 hz1 hz2 rfl w.heap.size (.slice (some ⟨w.heap.size, 0, none⟩) 0 0) 0 [] (by simp [Act.eval, Act.put]) (own_at (by first | exact heap1 w _ | exact heap2 w _ _) (Nat.le_refl _)) w.heap.size A k c ((i64s xs).take k) (by simp [Act.eval, Act.put]) HLT.out (HT.out.below (B' := w.heap.size) (by repeat (first | exact Below.refl _ _ | apply Below.drew | refine Below.alloc ?_ (by simp; try omega) _)) (Nat.le_refl _)) (fun u hu => i64s_one xs u (List.mem_of_mem_take hu)) (by unfold maxLen; omega) (by omega) (by simp; try omega) ?_; intro v1 w1 hown1 hb1 hg1; have hB1 : Below w.heap.size w w1 := Below.trans (by repeat (first | exact Below.refl _ _ | apply Below.drew | refine Below.alloc ?_ (by simp; try omega) _)) hb1)
            | (refine step_app rfl (.tmp 33) (.tmp 36) 28 rfl 3 i0 (.int .i64 0) 8 Tryd.underlying28 hi hz0 hz1 hz2 rfl w.heap.size (.slice (some ⟨w.heap.size + 1, 0, none⟩) 0 0) 0 [] (by simp [Act.eval, Act.put]) (own_at (by exact heap2' w _ _) (by omega)) w.heap.size A k c ((i64s xs).take k) (by simp [Act.eval, Act.put]) HLT.out (HT.out.below (B' := w.heap.size) (by repeat (first | exact Below.refl _ _ | apply Below.drew | refine Below.alloc ?_ (by simp; try omega) _)) (Nat.le_refl _)) (fun u hu => i64s_one xs u (List.mem_of_mem_take hu)) (by unfold maxLen; omega) (by omega) (by simp; try omega) ?_; intro v1 w1 hown1 hb1 hg1; have hB1 : Below w.heap.size w w1 := Below.trans (by repeat (first | exact Below.refl _ _ | apply Below.drew | refine Below.alloc ?_ (by simp; try omega) _)) hb1)
            | (refine step_app rfl (.tmp 37) (.tmp 39) 28 rfl 3 i0 (.int .i64 0) 8 Tryd.underlying28 hi hz0 hz1 hz2 rfl w.heap.size v1 (0 + k) _ (by simp [Act.eval, Act.put]) (hown1.alloc _) (w1.heap.size + 1) (some ⟨w1.heap.size, 0, none⟩) 1 1 [.int .i64 x] (by simp [Act.eval, Act.put]) rfl (Rd.new1 w1 _ 3) (fun u hu => by simp at hu; subst hu; rfl) (by unfold maxLen; omega) (by omega) (by have := hB1.size; simp; omega) ?_; intro v2 w2 hown2 hb2 hg2; have hB2 : Below w.heap.size w w2 := (hB1.alloc hB1.size _).trans hb2)
            | (refine step_app rfl (.tmp 37) (.tmp 39) 28 rfl 3 i0 (.int .i64 0) 8 Tryd.underlying28 hi hz0 hz1 hz2 rfl w.heap.size v1 (0 + k) _ (by simp [Act.eval, Act.put]) hown1 (w.heap.size + 1 + 1) (some ⟨w.heap.size + 1, 0, none⟩) 1 1 [.int .i64 x] (by simp [Act.eval, Act.put]) rfl (Rd.at_ (t := 3) ((hg1.block (w.heap.size + 1) (by simp) (by simp [Value.ownBlock])).trans (heap2' w _ _))) (fun u hu => by simp at hu; subst hu; rfl) (by unfold maxLen; omega) (by omega) hB1.size ?_; intro v2 w2 hown2 hb2 hg2; have hB2 : Below w.heap.size w w2 := hB1.trans hb2)
            | (refine step_app rfl (.tmp 37) (.tmp 39) 28 rfl 3 i0 (.int .i64 0) 8 Tryd.underlying28 hi hz0 hz1 hz2 rfl w.heap.size v1 (0 + k) _ (by simp [Act.eval, Act.put]) hown1 (w.heap.size + 1) (some ⟨w.heap.size, 0, none⟩) 1 1 [.int .i64 x] (by simp [Act.eval, Act.put]) rfl (Rd.at_ (t := 3) ((hg1.block w.heap.size (by simp; try omega) (by simp [Value.ownBlock])).trans (heap2 w _ _))) (fun u hu => by simp at hu; subst hu; rfl) (by unfold maxLen; omega) (by omega) hB1.size ?_; intro v2 w2 hown2 hb2 hg2; have hB2 : Below w.heap.size w w2 := hB1.trans hb2)
            | (refine step_app rfl (.tmp 40) (.tmp 43) 28 rfl 3 i0 (.int .i64 0) 8 Tryd.underlying28 hi hz0 hz1 hz2 rfl w.heap.size v2 (0 + k + 1) _ (by simp [Act.eval, Act.put]) hown2 w.heap.size (if c = k then A else Option.map (fun x => x.add k) A) (n - k) (c - k) ((i64s xs).drop k) (by simp [Act.eval, Act.put]) HLD.out (HC.out.below hB2 (Nat.le_refl _)) (fun u hu => i64s_one xs u (List.mem_of_mem_drop hu)) (by unfold maxLen; omega) (by omega) hB2.size ?_; intro v3 w3 hown3 hb3 hg3; have hB3 : Below w.heap.size w w3 := hB2.trans hb3))
          all_goals
            go_wp2
            all_goals
              go_ret
              exact lst_fin HP.out hown3 hB3
end Go.Proofs.YthgagobdkcikiaaDoor.Ids
