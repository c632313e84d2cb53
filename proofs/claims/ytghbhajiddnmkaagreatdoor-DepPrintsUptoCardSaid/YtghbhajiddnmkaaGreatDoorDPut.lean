/- A rising list of texts with one more: Put. -/
import Derived.Test.YtghbhajiddnmkaaGreatDoorDSorted
import Derived.Test.YtghbhajiddnmkaaGreatDoorDNames
import Derived.Test.YtghbhajiddnmkaaGreatDoorUp
import Derived.Sort.Walk0
namespace Go.Proofs.YtghbhajiddnmkaaGreatDoor
set_option linter.unusedSimpArgs false
set_option linter.unusedVariables false
open Go.RowKit

theorem Rd.take {w : World} {B : Nat} {A : Option Addr} {xs : List Value} (h : Rd w B A xs) (n : Nat) : Rd w B A (xs.take n) := fun k v hk => by
  rw [List.getElem?_take] at hk
  split at hk
  · exact h k v hk
  · cases hk
theorem Rd.own {w : World} {base : Nat} {e : TypeId} {A : Option Addr} {n c : Nat} {xs : List Value} (h : w.ownsRow base e 1 (.slice A n c) n xs) : Rd w w.heap.size A xs := fun k v hk => by
  rcases h.2 with ⟨hv, hn⟩ | ⟨g, cap, cur, hv, hb, hg, hle, hm, hs, ht⟩
  · have := h.1; subst hn; have : xs = [] := List.eq_nil_of_length_eq_zero (by omega); subst this; simp at hk
  · have hA : A = some ⟨g, 0, none⟩ := by injection hv
    subst hA
    have hlt := h.lt g rfl
    have := h.cells (g := g) rfl k v hk
    refine ⟨g, 0, rfl, hlt.2, ?_⟩
    have e : (⟨g, 0, none⟩ : Addr).add k = ⟨g, 0 + k, none⟩ := by unfold Addr.add; split <;> simp_all
    rw [e] at this
    exact this
theorem Rd.new1 (w : World) (u : Value) (t : TypeId) : Rd (w.alloc (.cells #[u] t)) (w.heap.size + 1) (some ⟨w.heap.size, 0, none⟩) [u] := fun k v hk => by
  cases k with
  | zero =>
    have : u = v := by simpa using hk
    subst this
    refine ⟨w.heap.size, 0, rfl, by omega, ?_⟩
    rw [World.cell?_alloc_at _ _ _ _ rfl]; rfl
  | succ k => simp at hk
theorem own_form {w : World} {base n : Nat} {e : TypeId} {v : Value} {xs : List Value} (h : w.ownsRow base e 1 v n xs) : xs.length = n ∧ ∃ A c, v = .slice A n c ∧ n ≤ c ∧ c ≤ maxLen := by
  refine ⟨by have := h.1; omega, ?_⟩
  rcases h.2 with ⟨rfl, rfl⟩ | ⟨g, cap, cur, rfl, _, _, h1, h2, _⟩
  · exact ⟨none, 0, rfl, Nat.le_refl _, by simp [maxLen]⟩
  · exact ⟨_, cap, rfl, h1, h2⟩
/-- A slice cut at its head. -/
theorem Rd.cut {w : World} {B c k : Nat} {A : Option Addr} {xs : List Value} (h : Rd w B A xs) (hc : xs.length ≤ c) :
    Rd w B (if c = k then A else A.map (·.add k)) (xs.drop k) := fun i v hi => by
  rw [List.getElem?_drop] at hi
  have hlt : k + i < xs.length := by
    rcases Nat.lt_or_ge (k + i) xs.length with hh | hh
    · exact hh
    · rw [List.getElem?_eq_none hh] at hi; cases hi
  obtain ⟨b, o, rfl, hb, hcell⟩ := h (k + i) v hi
  rw [if_neg (by omega)]
  refine ⟨b, o + k, ?_, hb, by rw [Nat.add_assoc]; exact hcell⟩
  show some (Addr.add ⟨b, o, none⟩ k) = _
  congr 1
  unfold Addr.add
  split
  · rename_i h0; subst h0; rfl
  · rfl

theorem own_at {w : World} {base g : Nat} {t : TypeId} (h : w.heap[g]? = some (.cells #[] t (0, 0))) (hb : base ≤ g) : w.ownsRow base t 1 (.slice (some ⟨g, 0, none⟩) 0 0) 0 [] :=
  ⟨rfl, .inr ⟨g, 0, #[], rfl, hb, h, Nat.le_refl _, by simp [maxLen], rfl, rfl⟩⟩
theorem Rd.one_ {w : World} {g : Nat} {t : TypeId} {u : Value} (h : w.heap[g]? = some (.cells #[u] t (0, 0))) : Rd w (g + 1) (some ⟨g, 0, none⟩) [u] := fun k v hk => by
  cases k with
  | zero =>
    have : u = v := by simpa using hk
    subst this
    refine ⟨g, 0, rfl, by omega, ?_⟩
    rw [cell_of_row w g _ _ t (0, 0) h]; rfl
  | succ k => simp at hk
section
variable {P : Program} (w : World)
theorem run_app (t ty e : TypeId) (i : TypeInfo) (z : Value) (bytes : Nat) (ht : P.underlying t = some (.slice e)) (hi : P.info? e = some i) (hz : i.zero = some z) (hsize : i.size = 1) (hby : i.bytes = bytes)
    (hzs : z.cells.size = 1) (base : Nat) (v : Value) (n : Nat) (xs : List Value) (hown : w.ownsRow base e 1 v n xs) (B : Nat) (A : Option Addr) (m c : Nat) (news : List Value) (hl : news.length = m) (hr : Rd w B A news)
    (h1 : ∀ u ∈ news, u.oneCell' = true) (h63 : n + m ≤ maxLen) (hbytes : (n + m) * bytes ≤ 140737488355328) (hbase : base ≤ w.heap.size) :
    ∃ v' w', (Builtin.append_ #[t, t] ty #[v, .slice A m c]).run P w = .ok v' w' ∧ w'.ownsRow base e 1 v' (n + m) (xs ++ news) ∧ Below base w w' ∧ w.grownBy w' v.ownBlock := by
  cases A with
  | none =>
    have hn : news = [] := by
      cases news with
      | nil => rfl
      | cons u r => obtain ⟨b, o, h, _⟩ := hr 0 u rfl; cases h
    subst hn
    subst hl
    refine ⟨v, w, ?_, by simpa using hown, Below.refl _ _, World.grownBy.refl w _⟩
    rcases hown.2 with ⟨rfl, rfl⟩ | ⟨g, cap, cur, rfl, _, _, hle, _⟩
    · simp [Builtin.append_, run_underlying ht, sizeOf, typeInfo, hi, Builtin.lenOf, Builtin.firstCells]
    · simp [Builtin.append_, run_underlying ht, sizeOf, typeInfo, hi, Builtin.lenOf, Builtin.firstCells, hle, storeCells]
  | some ad =>
    have hcells : ∀ j u, news[j]? = some u → w.cell? (ad.add j) = some u := fun j u hu => by
      obtain ⟨b, o, h, _, hc⟩ := hr j u hu
      injection h with h
      subst h
      have e : (⟨b, o, none⟩ : Addr).add j = ⟨b, o + j, none⟩ := by unfold Addr.add; split <;> simp_all
      rw [e]; exact hc
    obtain ⟨v', w', hrun, h2, h3, _⟩ := run_append_own (P := P) w base t ty e i z 1 bytes ht hi hz hsize hby hzs (by decide) v n xs hown ad m c news (by omega) hcells h1 h63 hbytes hbase
    exact ⟨v', w', hrun, h2, (Below.refl base w).grown h3 hbase fun k hk => (hown.lt k hk).1, h3⟩

end
theorem add_lit (b o k : Nat) : Addr.add ⟨b, o, none⟩ k = ⟨b, o + k, none⟩ := by
  unfold Addr.add
  split
  · rename_i h0; subst h0; rfl
  · rfl
theorem heap1 (w : World) (E : Obj) : (w.alloc E).heap[w.heap.size]? = some E := heap_alloc_new w E
theorem heap2 (w : World) (E F : Obj) : ((w.alloc E).alloc F).heap[w.heap.size]? = some E := (heap_alloc_old (w.alloc E) F (by simp)).trans (heap_alloc_new w E)
theorem heap2' (w : World) (E F : Obj) : ((w.alloc E).alloc F).heap[w.heap.size + 1]? = some F := by
  have := heap_alloc_new (w.alloc E) F
  simpa using this

theorem step_app {P : Program} {w : World} {ops : Array Oper} {o : Oper} {a : Act} {K : Act → World → Prop} {Q : Exit → Act → World → Prop} {E : Prop} (hgd : o.guard = none) (s x : Operand) (t : TypeId)
    (ho : o.op = .call { callee := .builtin .append, args := #[s, x], argTypes := #[t, t] })
    (e : TypeId) (i : TypeInfo) (z : Value) (bytes : Nat) (ht : P.underlying t = some (.slice e)) (hi : P.info? e = some i) (hz : i.zero = some z) (hsize : i.size = 1) (hby : i.bytes = bytes) (hzs : z.cells.size = 1)
    (base : Nat) (v : Value) (n : Nat) (xs : List Value) (hs : a.eval s = v) (hown : w.ownsRow base e 1 v n xs) (B : Nat) (A : Option Addr) (m c : Nat) (news : List Value) (hx : a.eval x = .slice A m c)
    (hl : news.length = m) (hr : Rd w B A news) (h1 : ∀ u ∈ news, u.oneCell' = true) (h63 : n + m ≤ maxLen) (hbytes : (n + m) * bytes ≤ 140737488355328) (hbase : base ≤ w.heap.size)
    (h : ∀ v' w', w'.ownsRow base e 1 v' (n + m) (xs ++ news) → Below base w w' → w.grownBy w' v.ownBlock → K (a.put o.dst v') w') :
    if Region.wanted o (yielded ops a.tmps) = true then Oper.wp P o a w K Q else E := by
  have hw : Region.wanted o (yielded ops a.tmps) = true := by simp [Region.wanted, hgd]
  rw [if_pos hw]
  obtain ⟨v', w', hrun, h2, h3, h4⟩ := run_app (P := P) w t o.type e i z bytes ht hi hz hsize hby hzs base v n xs hown B A m c news hl hr h1 h63 hbytes hbase
  unfold Oper.wp execOp
  simp only [ho, resolve, invoke, builtin, Sem.run_bind, Sem.run_pure, Result.andThen_ok, List.map_toArray, List.map_cons, List.map_nil, hs, hx, hrun]
  exact h v' w' h2 h3 h4

def strV (ls : List ByteArray) : List Value := ls.map Value.string
theorem strs_len (ls : List ByteArray) : (strV ls).length = ls.length := by simp [strV]
theorem strs_append (a b : List ByteArray) : strV (a ++ b) = strV a ++ strV b := by simp [strV]
theorem strs_one (ls : List ByteArray) : ∀ u ∈ strV ls, u.oneCell' = true := by
  intro u hu
  simp only [strV, List.mem_map] at hu
  obtain ⟨y, _, rfl⟩ := hu
  rfl
theorem ltS_snoc {l m : List ByteArray} {x y : ByteArray} (e : m = l ++ [y]) (h : ∀ z ∈ l, z.data.toList < x.data.toList) (hy : y.data.toList < x.data.toList) : ∀ z ∈ m, z.data.toList < x.data.toList := by
  subst e
  intro z hz
  rcases List.mem_append.1 hz with h1 | h1
  · exact h z h1
  · rw [List.mem_singleton.1 h1]; exact hy
def putS : List ByteArray → ByteArray → List ByteArray
  | [], s => [s]
  | x :: r, s => if x.data.toList < s.data.toList then x :: putS r s else if x = s then x :: r else s :: x :: r
theorem putS_putN (l : List ByteArray) (s : ByteArray) : (putS l s).map (fun y => y.data.toList) = putN (l.map fun y => y.data.toList) s.data.toList := by
  induction l with
  | nil => rfl
  | cons x r ih =>
    simp only [List.map_cons]
    unfold putS putN
    by_cases h : x.data.toList < s.data.toList
    · rw [if_pos h, if_pos h, List.map_cons, ih]
    · rw [if_neg h, if_neg h]
      by_cases e : x = s
      · rw [if_pos e, if_pos (by rw [e])]; rfl
      · rw [if_neg e, if_neg (fun h' => e (kdS_inj _ _ (congrArg Lit.string h')))]; rfl
theorem putS_same {x : ByteArray} : ∀ {k : Nat} {xs : List ByteArray}, k ≤ xs.length → (∀ y ∈ xs.take k, y.data.toList < x.data.toList) → xs[k]? = some x → putS xs x = xs
  | k, [], _, _, h => by simp at h
  | 0, y :: r, _, _, h => by
    simp at h; subst h
    unfold putS
    rw [if_neg (tx_irrefl _), if_pos rfl]
  | k + 1, y :: r, hk, h1, h2 => by
    unfold putS
    rw [if_pos (h1 y (by simp)), putS_same (k := k) (by simpa using hk) (fun z hz => h1 z (by simp [hz])) (by simpa using h2)]
theorem putS_new {x : ByteArray} : ∀ {k : Nat} {xs : List ByteArray}, k ≤ xs.length → (∀ y ∈ xs.take k, y.data.toList < x.data.toList) → (∀ y, xs[k]? = some y → x.data.toList < y.data.toList) → putS xs x = xs.take k ++ [x] ++ xs.drop k
  | 0, [], _, _, _ => rfl
  | 0, y :: r, _, _, h => by
    have := h y rfl
    unfold putS
    rw [if_neg (tx_asymm this), if_neg (fun e => tx_irrefl _ (e ▸ this))]
    rfl
  | k + 1, [], h, _, _ => by simp at h
  | k + 1, y :: r, hk, h1, h2 => by
    unfold putS
    rw [if_pos (h1 y (by simp)), putS_new (k := k) (by simpa using hk) (fun z hz => h1 z (by simp [hz])) (fun z hz => h2 z (by simpa using hz))]
    rfl
def LstS (w : World) (l : List ByteArray) (e : Ending) (w' : World) : Prop :=
  ∃ A c, e = .returned (.slice A l.length c) ∧ l.length ≤ c ∧ c ≤ maxLen ∧ Rd w' w'.heap.size A (strV l) ∧ Below w.heap.size w w'
theorem lstS_fin {w w3 : World} {k m : Nat} {x : ByteArray} {v : Value} {xs l : List ByteArray} (hl : l = xs.take k ++ [x] ++ xs.drop k)
    (hown : w3.ownsRow w.heap.size 9 1 v m ((([] ++ (strV xs).take k) ++ [.string x]) ++ (strV xs).drop k)) (hb : Below w.heap.size w w3) : LstS w l (.returned v) w3 := by
  have e : ((([] ++ (strV xs).take k) ++ [.string x]) ++ (strV xs).drop k) = strV l := by
    rw [hl, strs_append, strs_append]
    simp [strV, List.map_take, List.map_drop]
  rw [e] at hown
  obtain ⟨hm, A, c, rfl, h1, h2⟩ := own_form hown
  rw [strs_len] at hm
  subst hm
  exact ⟨A, c, rfl, h1, h2, Rd.own hown, hb⟩
theorem less_yes {a b : ByteArray} (h : a.data.toList < b.data.toList) : Op.bytesLess a.toList b.toList = true := by
  rw [bytesLess_eq, ByteArray.toList_eq, ByteArray.toList_eq]
  exact decide_eq_true h
theorem less_no {a b : ByteArray} (h : ¬ a.data.toList < b.data.toList) : Op.bytesLess a.toList b.toList = false := by
  rw [bytesLess_eq, ByteArray.toList_eq, ByteArray.toList_eq]
  exact decide_eq_false h
theorem str_self2 (a : ByteArray) : (a.toList == a.toList) = true := by simp
set_option maxRecDepth 100000 in
set_option maxHeartbeats 800000 in
theorem refPut_any (A : Option Addr) (c n : Nat) (x : ByteArray) (xs : List ByteArray) (w : World) (hl : xs.length = n) (hn : n < 8388608) (hnc : n ≤ c) (hcm : c ≤ maxLen) (hr : Rd w w.heap.size A (strV xs)) :
    Calls Tryz.prog 38 #[.slice A n c, .string x] w (LstS w (putS xs x)) := by
  obtain ⟨i0, hi, hz0, hz1, hz2⟩ := info_parts (show (Tryz.prog.info? 9).map (fun i => (i.zero, i.size, i.bytes)) = some (some (.string ⟨#[]⟩), 1, 16) by kernel_rfl)
  unfold maxLen at hcm
  have HL := Lib.hid hl
  have HR := Lib.hid hr
  clear hl hr
  go_enter Tryz.func38, Tryz.ntmps38
  go_wp2_with fail
  go_loop [5] (fun i => ∃ k : Nat, k ≤ n ∧ i = .int .i64 (k : Int) ∧ Hid (∀ y ∈ xs.take k, y.data.toList < x.data.toList)) (fun i => n - (intOf i).toNat)
  case atStart => exact ⟨0, by omega, rfl, by simp [Hid]⟩
  case round =>
    obtain ⟨k, hk, rfl, hx⟩ := hrel
    by_cases hgo : ∃ hk1 : k < xs.length, (xs[k]'hk1).data.toList < x.data.toList
    · obtain ⟨hk1, hyx⟩ := hgo
      have hlt' : (k : Int) < (n : Int) := by have := HL.out; omega
      obtain ⟨b, o, rfl, _, hc⟩ := HR.out k (.string (xs[k]'hk1)) (by simp [strV, List.getElem?_eq_getElem hk1])
      have e1 : Hid (xs.take (k + 1) = xs.take k ++ [xs[k]'hk1]) := (List.take_append_getElem hk1).symm
      generalize xs[k]'hk1 = y at hc e1 hyx
      have hbl := less_yes hyx
      clear hk1
      go_wp2_with fail
      go_round
      case rel => go_light; exact ⟨k + 1, by omega, by go_num, ltS_snoc e1.out hx.out hyx⟩
      case measure => go_light; simp only [intOf]; omega
    · have hend : ∀ y, xs[k]? = some y → ¬ y.data.toList < x.data.toList := fun y hy hlt => hgo (by
        obtain ⟨h, e⟩ := List.getElem?_eq_some_iff.1 hy
        exact ⟨h, by rw [e]; exact hlt⟩)
      have hkx : k ≤ xs.length := by have := HL.out; omega
      by_cases hsame : xs[k]? = some x
      · have hkn : k < n := by have := (List.getElem?_eq_some_iff.1 hsame).1; have := HL.out; omega
        have hlt' : (k : Int) < (n : Int) := by omega
        obtain ⟨b, o, rfl, _, hc⟩ := HR.out k (.string x) (by simp [strV, hsame])
        have HP := Lib.hid (putS_same hkx hx.out hsame)
        have hnlt := less_no (tx_irrefl x.data.toList)
        have heq := str_self2 x
        clear hgo hend hsame hkx
        go_wp2_with fail
        go_ret
        refine ⟨some ⟨b, o, none⟩, c, ?_, ?_, ?_, ?_, Below.refl _ _⟩
        · rw [HP.out, HL.out]; rfl
        · rw [HP.out, HL.out]; exact hnc
        · unfold maxLen; exact hcm
        · rw [HP.out]; exact HR.out
      · have hnew := putS_new hkx hx.out (fun y hy => by
          have h1 := hend y hy
          exact tx_tri h1 (fun e => hsame (by rw [← kdS_inj _ _ (congrArg Lit.string e)]; exact hy)))
        by_cases hkn : k < n
        · have hk1 : k < xs.length := by have := HL.out; omega
          have hlt' : (k : Int) < (n : Int) := by omega
          obtain ⟨b, o, rfl, _, hc⟩ := HR.out k (.string (xs[k]'hk1)) (by simp [strV, List.getElem?_eq_getElem hk1])
          have hne := less_no (hend _ (List.getElem?_eq_getElem hk1))
          have hne2 : ((xs[k]'hk1).toList == x.toList) = false := str_ne fun e => hsame (by rw [List.getElem?_eq_getElem hk1, e])
          generalize xs[k]'hk1 = y at hc hne hne2
          have HP := Lib.hid hnew
          clear hgo hend hsame hkx hk1 hnew
          go_wp2_with fail
          have hkc : k ≤ c := by omega
          have hkc' : (k : Int) ≤ (c : Int) := by omega
          have hkn' : (k : Int) ≤ (n : Int) := by omega
          have hnc' : (n : Int) ≤ (c : Int) := by omega
          have HT := Lib.hid (HR.out.take k)
          have HLT : Hid (((strV xs).take k).length = k) := by show _ = _; rw [List.length_take, strs_len]; have := HL.out; omega
          have HLD : Hid (((strV xs).drop k).length = n - k) := by show _ = _; rw [List.length_drop, strs_len]; have := HL.out; omega
          have hcut := HR.out.cut (c := c) (k := k) (by rw [strs_len]; have := HL.out; omega)
          rw [show (Option.map (fun x : Addr => x.add k) (some ⟨b, o, none⟩)) = some ⟨b, o + k, none⟩ from congrArg some (add_lit b o k)] at hcut
          have HC := Lib.hid hcut
          clear hcut
          go_region_law (first
            | (refine step_app rfl (.tmp 33) (.tmp 36) 30 rfl 9 i0 (.string ⟨#[]⟩) 16 Tryz.underlying30 hi hz0 hz1 hz2 rfl w.heap.size (.slice (some ⟨w.heap.size, 0, none⟩) 0 0) 0 [] (by simp [Act.eval, Act.put]) (own_at (by first | exact heap1 w _ | exact heap2 w _ _) (Nat.le_refl _)) w.heap.size (some ⟨b, o, none⟩) k c ((strV xs).take k) (by simp [Act.eval, Act.put]) HLT.out (HT.out.below (B' := w.heap.size) (by repeat (first | exact Below.refl _ _ | apply Below.drew | refine Below.alloc ?_ (by simp; try omega) _)) (Nat.le_refl _)) (fun u hu => strs_one xs u (List.mem_of_mem_take hu)) (by unfold maxLen; omega) (by omega) (by simp; try omega) ?_; intro v1 w1 hown1 hb1 hg1; have hB1 : Below w.heap.size w w1 := Below.trans (by repeat (first | exact Below.refl _ _ | apply Below.drew | refine Below.alloc ?_ (by simp; try omega) _)) hb1)
            | (refine step_app rfl (.tmp 33) (.tmp 36) 30 rfl 9 i0 (.string ⟨#[]⟩) 16 Tryz.underlying30 hi hz0 hz1 hz2 rfl w.heap.size (.slice (some ⟨w.heap.size + 1, 0, none⟩) 0 0) 0 [] (by simp [Act.eval, Act.put]) (own_at (by exact heap2' w _ _) (by omega)) w.heap.size (some ⟨b, o, none⟩) k c ((strV xs).take k) (by simp [Act.eval, Act.put]) HLT.out (HT.out.below (B' := w.heap.size) (by repeat (first | exact Below.refl _ _ | apply Below.drew | refine Below.alloc ?_ (by simp; try omega) _)) (Nat.le_refl _)) (fun u hu => strs_one xs u (List.mem_of_mem_take hu)) (by unfold maxLen; omega) (by omega) (by simp; try omega) ?_; intro v1 w1 hown1 hb1 hg1; have hB1 : Below w.heap.size w w1 := Below.trans (by repeat (first | exact Below.refl _ _ | apply Below.drew | refine Below.alloc ?_ (by simp; try omega) _)) hb1)
            | (refine step_app rfl (.tmp 37) (.tmp 39) 30 rfl 9 i0 (.string ⟨#[]⟩) 16 Tryz.underlying30 hi hz0 hz1 hz2 rfl w.heap.size v1 (0 + k) _ (by simp [Act.eval, Act.put]) (hown1.alloc _) (w1.heap.size + 1) (some ⟨w1.heap.size, 0, none⟩) 1 1 [.string x] (by simp [Act.eval, Act.put]) rfl (Rd.new1 w1 _ 9) (fun u hu => by simp at hu; subst hu; rfl) (by unfold maxLen; omega) (by omega) (by have := hB1.size; simp; omega) ?_; intro v2 w2 hown2 hb2 hg2; have hB2 : Below w.heap.size w w2 := (hB1.alloc hB1.size _).trans hb2)
            | (refine step_app rfl (.tmp 37) (.tmp 39) 30 rfl 9 i0 (.string ⟨#[]⟩) 16 Tryz.underlying30 hi hz0 hz1 hz2 rfl w.heap.size v1 (0 + k) _ (by simp [Act.eval, Act.put]) hown1 (w.heap.size + 1 + 1) (some ⟨w.heap.size + 1, 0, none⟩) 1 1 [.string x] (by simp [Act.eval, Act.put]) rfl (Rd.one_ (t := 9) ((hg1.block (w.heap.size + 1) (by simp) (by simp [Value.ownBlock])).trans (heap2' w _ _))) (fun u hu => by simp at hu; subst hu; rfl) (by unfold maxLen; omega) (by omega) hB1.size ?_; intro v2 w2 hown2 hb2 hg2; have hB2 : Below w.heap.size w w2 := hB1.trans hb2)
            | (refine step_app rfl (.tmp 37) (.tmp 39) 30 rfl 9 i0 (.string ⟨#[]⟩) 16 Tryz.underlying30 hi hz0 hz1 hz2 rfl w.heap.size v1 (0 + k) _ (by simp [Act.eval, Act.put]) hown1 (w.heap.size + 1) (some ⟨w.heap.size, 0, none⟩) 1 1 [.string x] (by simp [Act.eval, Act.put]) rfl (Rd.one_ (t := 9) ((hg1.block w.heap.size (by simp; try omega) (by simp [Value.ownBlock])).trans (heap2 w _ _))) (fun u hu => by simp at hu; subst hu; rfl) (by unfold maxLen; omega) (by omega) hB1.size ?_; intro v2 w2 hown2 hb2 hg2; have hB2 : Below w.heap.size w w2 := hB1.trans hb2)
            | (refine step_app rfl (.tmp 40) (.tmp 43) 30 rfl 9 i0 (.string ⟨#[]⟩) 16 Tryz.underlying30 hi hz0 hz1 hz2 rfl w.heap.size v2 (0 + k + 1) _ (by simp [Act.eval, Act.put]) hown2 w.heap.size (if c = k then some ⟨b, o, none⟩ else some ⟨b, o + k, none⟩) (n - k) (c - k) ((strV xs).drop k) (by simp [Act.eval, Act.put]) HLD.out (HC.out.below hB2 (Nat.le_refl _)) (fun u hu => strs_one xs u (List.mem_of_mem_drop hu)) (by unfold maxLen; omega) (by omega) hB2.size ?_; intro v3 w3 hown3 hb3 hg3; have hB3 : Below w.heap.size w w3 := hB2.trans hb3))
          all_goals
            go_wp2_with fail
            all_goals
              go_ret
              exact lstS_fin HP.out hown3 hB3
        · have hlt' : ¬ (k : Int) < (n : Int) := by omega
          have HP := Lib.hid hnew
          clear hgo hend hsame hkx hnew
          go_wp2_with fail
          have hkc : k ≤ c := by omega
          have hkc' : (k : Int) ≤ (c : Int) := by omega
          have hkn' : (k : Int) ≤ (n : Int) := by omega
          have hnc' : (n : Int) ≤ (c : Int) := by omega
          have HT := Lib.hid (HR.out.take k)
          have HLT : Hid (((strV xs).take k).length = k) := by show _ = _; rw [List.length_take, strs_len]; have := HL.out; omega
          have HLD : Hid (((strV xs).drop k).length = n - k) := by show _ = _; rw [List.length_drop, strs_len]; have := HL.out; omega
          have hcut := HR.out.cut (c := c) (k := k) (by rw [strs_len]; have := HL.out; omega)
          have HC := Lib.hid hcut
          clear hcut
          go_region_law (first
            | (refine step_app rfl (.tmp 33) (.tmp 36) 30 rfl 9 i0 (.string ⟨#[]⟩) 16 Tryz.underlying30 hi hz0 hz1 hz2 rfl w.heap.size (.slice (some ⟨w.heap.size, 0, none⟩) 0 0) 0 [] (by simp [Act.eval, Act.put]) (own_at (by first | exact heap1 w _ | exact heap2 w _ _) (Nat.le_refl _)) w.heap.size A k c ((strV xs).take k) (by simp [Act.eval, Act.put]) HLT.out (HT.out.below (B' := w.heap.size) (by repeat (first | exact Below.refl _ _ | apply Below.drew | refine Below.alloc ?_ (by simp; try omega) _)) (Nat.le_refl _)) (fun u hu => strs_one xs u (List.mem_of_mem_take hu)) (by unfold maxLen; omega) (by omega) (by simp; try omega) ?_; intro v1 w1 hown1 hb1 hg1; have hB1 : Below w.heap.size w w1 := Below.trans (by repeat (first | exact Below.refl _ _ | apply Below.drew | refine Below.alloc ?_ (by simp; try omega) _)) hb1)
            | (refine step_app rfl (.tmp 33) (.tmp 36) 30 rfl 9 i0 (.string ⟨#[]⟩) 16 Tryz.underlying30 hi hz0 hz1 hz2 rfl w.heap.size (.slice (some ⟨w.heap.size + 1, 0, none⟩) 0 0) 0 [] (by simp [Act.eval, Act.put]) (own_at (by exact heap2' w _ _) (by omega)) w.heap.size A k c ((strV xs).take k) (by simp [Act.eval, Act.put]) HLT.out (HT.out.below (B' := w.heap.size) (by repeat (first | exact Below.refl _ _ | apply Below.drew | refine Below.alloc ?_ (by simp; try omega) _)) (Nat.le_refl _)) (fun u hu => strs_one xs u (List.mem_of_mem_take hu)) (by unfold maxLen; omega) (by omega) (by simp; try omega) ?_; intro v1 w1 hown1 hb1 hg1; have hB1 : Below w.heap.size w w1 := Below.trans (by repeat (first | exact Below.refl _ _ | apply Below.drew | refine Below.alloc ?_ (by simp; try omega) _)) hb1)
            | (refine step_app rfl (.tmp 37) (.tmp 39) 30 rfl 9 i0 (.string ⟨#[]⟩) 16 Tryz.underlying30 hi hz0 hz1 hz2 rfl w.heap.size v1 (0 + k) _ (by simp [Act.eval, Act.put]) (hown1.alloc _) (w1.heap.size + 1) (some ⟨w1.heap.size, 0, none⟩) 1 1 [.string x] (by simp [Act.eval, Act.put]) rfl (Rd.new1 w1 _ 9) (fun u hu => by simp at hu; subst hu; rfl) (by unfold maxLen; omega) (by omega) (by have := hB1.size; simp; omega) ?_; intro v2 w2 hown2 hb2 hg2; have hB2 : Below w.heap.size w w2 := (hB1.alloc hB1.size _).trans hb2)
            | (refine step_app rfl (.tmp 37) (.tmp 39) 30 rfl 9 i0 (.string ⟨#[]⟩) 16 Tryz.underlying30 hi hz0 hz1 hz2 rfl w.heap.size v1 (0 + k) _ (by simp [Act.eval, Act.put]) hown1 (w.heap.size + 1 + 1) (some ⟨w.heap.size + 1, 0, none⟩) 1 1 [.string x] (by simp [Act.eval, Act.put]) rfl (Rd.one_ (t := 9) ((hg1.block (w.heap.size + 1) (by simp) (by simp [Value.ownBlock])).trans (heap2' w _ _))) (fun u hu => by simp at hu; subst hu; rfl) (by unfold maxLen; omega) (by omega) hB1.size ?_; intro v2 w2 hown2 hb2 hg2; have hB2 : Below w.heap.size w w2 := hB1.trans hb2)
            | (refine step_app rfl (.tmp 37) (.tmp 39) 30 rfl 9 i0 (.string ⟨#[]⟩) 16 Tryz.underlying30 hi hz0 hz1 hz2 rfl w.heap.size v1 (0 + k) _ (by simp [Act.eval, Act.put]) hown1 (w.heap.size + 1) (some ⟨w.heap.size, 0, none⟩) 1 1 [.string x] (by simp [Act.eval, Act.put]) rfl (Rd.one_ (t := 9) ((hg1.block w.heap.size (by simp; try omega) (by simp [Value.ownBlock])).trans (heap2 w _ _))) (fun u hu => by simp at hu; subst hu; rfl) (by unfold maxLen; omega) (by omega) hB1.size ?_; intro v2 w2 hown2 hb2 hg2; have hB2 : Below w.heap.size w w2 := hB1.trans hb2)
            | (refine step_app rfl (.tmp 40) (.tmp 43) 30 rfl 9 i0 (.string ⟨#[]⟩) 16 Tryz.underlying30 hi hz0 hz1 hz2 rfl w.heap.size v2 (0 + k + 1) _ (by simp [Act.eval, Act.put]) hown2 w.heap.size (if c = k then A else Option.map (fun x => x.add k) A) (n - k) (c - k) ((strV xs).drop k) (by simp [Act.eval, Act.put]) HLD.out (HC.out.below hB2 (Nat.le_refl _)) (fun u hu => strs_one xs u (List.mem_of_mem_drop hu)) (by unfold maxLen; omega) (by omega) hB2.size ?_; intro v3 w3 hown3 hb3 hg3; have hB3 : Below w.heap.size w w3 := hB2.trans hb3))
          all_goals
            go_wp2_with fail
            all_goals
              go_ret
              exact lstS_fin HP.out hown3 hB3
end Go.Proofs.YtghbhajiddnmkaaGreatDoor
