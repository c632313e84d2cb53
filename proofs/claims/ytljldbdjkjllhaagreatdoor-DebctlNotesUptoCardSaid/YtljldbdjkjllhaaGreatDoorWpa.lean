/- Maps of functions, known whole. Where a package has what a field tells: the two maps of functions. A field's text. A stanza in memory, and the package that is made of it. -/
import Derived.Test.YtljldbdjkjllhaaGreatDoorWaa
import Derived.MapKept
import Derived.Test.YtljldbdjkjllhaaGreatDoorWoa
import Derived.Test.YtljldbdjkjllhaaGreatDoorWla
import Derived.Test.YtljldbdjkjllhaaGreatDoorWma
/- Maps of functions, known whole. -/
namespace Go.Proofs.YtljldbdjkjllhaaGreatDoor
set_option linter.unusedSimpArgs false
set_option linter.unusedVariables false
open Go.RowKit Go.MapKept

def mapEs : List (ByteArray × Value) → Nat → List MapEntry
  | [], _ => []
  | (k, v) :: r, i => ⟨.string k, v, i⟩ :: mapEs r (i + 1)
def mapO (l : List (ByteArray × Value)) : Obj := .map (mapEs l 0).toArray l.length
def lookO (k : ByteArray) : List (ByteArray × Value) → Option Value
  | [] => none
  | (a, v) :: r => if k = a then some v else lookO k r
theorem mapEs_snoc (k : ByteArray) (v : Value) : ∀ (l : List (ByteArray × Value)) (i : Nat), mapEs (l ++ [(k, v)]) i = mapEs l i ++ [⟨.string k, v, i + l.length⟩]
  | [], i => rfl
  | (a, u) :: r, i => by
    show (⟨.string a, u, i⟩ : MapEntry) :: mapEs (r ++ [(k, v)]) (i + 1) = _
    rw [mapEs_snoc k v r (i + 1)]
    show _ = (⟨.string a, u, i⟩ : MapEntry) :: (mapEs r (i + 1) ++ [⟨.string k, v, i + (r.length + 1)⟩])
    rw [show i + 1 + r.length = i + (r.length + 1) from by omega]
theorem same_str (a b : ByteArray) : Instr.sameNow .string (.string a) (.string b) = some (decide (a = b)) := by
  show some (a == b) = _
  congr 1
  rw [Bool.eq_iff_iff, bytes_beq]
  simp
theorem find_es (k : ByteArray) : ∀ (l : List (ByteArray × Value)) (i j : Nat), (lookO k l = none ∧ Instr.findNow .string (.string k) (mapEs l i) j = some none) ∨ ∃ p v, lookO k l = some v ∧ Instr.findNow .string (.string k) (mapEs l i) j = some (some (p, v))
  | [], i, j => .inl ⟨rfl, rfl⟩
  | (a, v) :: r, i, j => by
    unfold mapEs Instr.findNow lookO
    rw [same_str]
    by_cases h : k = a
    · rw [decide_eq_true h, if_pos h]
      exact .inr ⟨j, v, rfl, rfl⟩
    · rw [decide_eq_false h, if_neg h]
      exact find_es k r (i + 1) (j + 1)
section
variable {P : Program} {w : World} {mty kt et : TypeId} {m : Nat} {l : List (ByteArray × Value)} {k : ByteArray} {v : Value}
theorem run_look (hm : P.underlying mty = some (.map kt et)) (hd : P.underlying kt = some .string) (hz : ∀ w, (zeroValue et).run P w = .ok .nilFunc w) (hb : w.heap[m]? = some (mapO l)) :
    (Instr.lookup mty (.map (some m)) (.string k) false).run P w = .ok ((lookO k l).getD .nilFunc) w := by
  have hk : IsKey .string (.string k) := by simp [IsKey]
  unfold mapO at hb
  rcases find_es k l 0 0 with ⟨h1, h2⟩ | ⟨p, u, h1, h2⟩
  · rw [h1]
    simp [Instr.lookup, run_underlying hm, Go.MapKept.run_getObj_map hb, run_checkKey hd hk, run_findKey hd h2, hz, Result.andThen]
  · rw [h1]
    simp [Instr.lookup, run_underlying hm, Go.MapKept.run_getObj_map hb, run_checkKey hd hk, run_findKey hd h2, Result.andThen]
theorem run_put (hm : P.underlying mty = some (.map kt et)) (hd : P.underlying kt = some .string) (hb : w.heap[m]? = some (mapO l)) (hn : lookO k l = none) :
    ∃ w', (Instr.mapUpdate mty (.map (some m)) (.string k) v).run P w = .ok () w' ∧ w'.heap[m]? = some (mapO (l ++ [(k, v)])) ∧ Turned [m] w w' := by
  have hk : IsKey .string (.string k) := by simp [IsKey]
  have hb' := hb
  unfold mapO at hb
  rcases find_es k l 0 0 with ⟨h1, h2⟩ | ⟨p, u, h1, h2⟩
  rotate_left
  · rw [hn] at h1; cases h1
  refine ⟨{ w with heap := w.heap.setIfInBounds m (mapO (l ++ [(k, v)])) }, ?_, (heap_set hb').1, ⟨rfl, rfl, rfl, by simp, fun j hj hjm => (heap_set hb').2 j (fun e => hjm (by simp [e]))⟩⟩
  have he : mapO (l ++ [(k, v)]) = .map ((mapEs l 0).toArray.push ⟨.string k, v, l.length⟩) (l.length + 1) := by
    unfold mapO
    rw [mapEs_snoc]
    simp
  rw [he]
  simp [Instr.mapUpdate, run_underlying hm, Go.MapKept.run_getObj_map hb, run_checkKey hd hk, run_findKey hd h2, run_setObj_map _ hb, Result.andThen]
end
theorem wpList_insert_map {P : Program} (w : World) {ops : Array Oper} {rest : List Oper} {o : Oper} {a : Act} {Q : Exit → Act → World → Prop}
    (hg : o.guard = none) (m x v : Operand) (t : TypeId) (hop : o.op = Op.insert t m x v)
    (kt et : TypeId) (ht : P.underlying t = some (.map kt et)) (hd : P.underlying kt = some .string) (b : Nat) (l : List (ByteArray × Value)) (hm : a.eval m = .map (some b)) (hb : w.heap[b]? = some (mapO l))
    (key : ByteArray) (val : Value) (hx : a.eval x = .string key) (hv : a.eval v = val) (hn : lookO key l = none)
    (hK : ∀ w', w'.heap[b]? = some (mapO (l ++ [(key, val)])) → Turned [b] w w' → wpList P ops Q rest (a.put o.dst undef) w') :
    wpList P ops Q (o :: rest) a w := by
  refine wpList_plain hg fun K' hK' => ?_
  obtain ⟨w', hrun, r1, r2⟩ := run_put (v := val) ht hd hb hn
  unfold Oper.wp
  simp [execOp, hop, hm, hx, hv, hrun, Result.andThen]
  exact hK' _ _ (hK w' r1 r2)
theorem map_new (w : World) : (w.alloc (.map #[] 0)).heap[w.heap.size]? = some (mapO []) := (heap_alloc w _).1
theorem map_turned' {w w' : World} {F : List Nat} {m : Nat} {l : List (ByteArray × Value)} (h : w.heap[m]? = some (mapO l)) (ht : Turned F w w') (hF : m ∉ F) : w'.heap[m]? = some (mapO l) := by
  rw [ht.block m (Array.getElem?_eq_some_iff.1 h).1 hF]; exact h
theorem map_below {w w' : World} {m : Nat} {l : List (ByteArray × Value)} (h : w.heap[m]? = some (mapO l)) (hb : Below w.heap.size w w') : w'.heap[m]? = some (mapO l) := map_turned' h (Turned.of_below hb []) (fun hk => by cases hk)
theorem map_not_blk {w : World} {m g : Nat} {l : List (ByteArray × Value)} {t : TypeId} {cs : Array Value} (h : w.heap[m]? = some (mapO l)) (hb : Blk w g t cs) : m ≠ g := fun e => by
  subst e
  have h1 : some (mapO l) = some (Obj.cells cs t (0, 0)) := h.symm.trans hb
  cases h1
end Go.Proofs.YtljldbdjkjllhaaGreatDoor

/- Where a package has what a field tells: the two maps of functions. A field's text. -/
namespace Go.Proofs.YtljldbdjkjllhaaGreatDoor
set_option linter.unusedSimpArgs false
set_option linter.unusedVariables false
open Go.RowKit

def fcV (f : Nat) : Value := .func (.func f) #[] #[]
def fldL : List Bs := [[80, 97, 99, 107, 97, 103, 101], [86, 101, 114, 115, 105, 111, 110], [65, 114, 99, 104, 105, 116, 101, 99, 116, 117, 114, 101], [79, 114, 105, 103, 105, 110], [80, 114, 111, 118, 105, 100, 101, 115], [68, 101, 112, 101, 110, 100, 115], [80, 114, 101, 45, 68, 101, 112, 101, 110, 100, 115], [67, 111, 110, 102, 108, 105, 99, 116, 115], [66, 114, 101, 97, 107, 115], [82, 101, 112, 108, 97, 99, 101, 115], [82, 101, 99, 111, 109, 109, 101, 110, 100, 115], [69, 110, 104, 97, 110, 99, 101, 115]]
def fldCs : Array Value := #[.string (mkS [80, 97, 99, 107, 97, 103, 101]), .string (mkS [86, 101, 114, 115, 105, 111, 110]), .string (mkS [65, 114, 99, 104, 105, 116, 101, 99, 116, 117, 114, 101]), .string (mkS [79, 114, 105, 103, 105, 110]), .string (mkS [80, 114, 111, 118, 105, 100, 101, 115]), .string (mkS [68, 101, 112, 101, 110, 100, 115]), .string (mkS [80, 114, 101, 45, 68, 101, 112, 101, 110, 100, 115]), .string (mkS [67, 111, 110, 102, 108, 105, 99, 116, 115]), .string (mkS [66, 114, 101, 97, 107, 115]), .string (mkS [82, 101, 112, 108, 97, 99, 101, 115]), .string (mkS [82, 101, 99, 111, 109, 109, 101, 110, 100, 115]), .string (mkS [69, 110, 104, 97, 110, 99, 101, 115])]
def FldAt (w : World) : Prop := ∃ t, Blk w 1 t fldCs
theorem FldAt.turned {w w' : World} {F : List Nat} (h : FldAt w) (ht : Turned F w w') (hF : 1 ∉ F) : FldAt w' := by
  obtain ⟨t, h⟩ := h
  exact ⟨t, h.turned ht hF⟩
def txtEs : List (ByteArray × Value) := [(mkS [80, 97, 99, 107, 97, 103, 101], fcV 103), (mkS [86, 101, 114, 115, 105, 111, 110], fcV 104), (mkS [65, 114, 99, 104, 105, 116, 101, 99, 116, 117, 114, 101], fcV 105), (mkS [79, 114, 105, 103, 105, 110], fcV 106)]
def relEs : List (ByteArray × Value) := [(mkS [80, 114, 111, 118, 105, 100, 101, 115], fcV 108), (mkS [68, 101, 112, 101, 110, 100, 115], fcV 109), (mkS [80, 114, 101, 45, 68, 101, 112, 101, 110, 100, 115], fcV 110), (mkS [67, 111, 110, 102, 108, 105, 99, 116, 115], fcV 107), (mkS [66, 114, 101, 97, 107, 115], fcV 107), (mkS [82, 101, 112, 108, 97, 99, 101, 115], fcV 111), (mkS [82, 101, 99, 111, 109, 109, 101, 110, 100, 115], fcV 112), (mkS [69, 110, 104, 97, 110, 99, 101, 115], fcV 113)]
theorem zeroTf : ∀ w, (zeroValue 118).run Tryz.prog w = .ok .nilFunc w := fun w => by kernel_rfl
theorem zeroRf : ∀ w, (zeroValue 115).run Tryz.prog w = .ok .nilFunc w := fun w => by kernel_rfl
theorem txt0 : lookO (mkS [80, 97, 99, 107, 97, 103, 101]) txtEs = some (fcV 103) := by kernel_rfl
theorem rel0 : lookO (mkS [80, 97, 99, 107, 97, 103, 101]) relEs = none := by kernel_rfl
theorem txt1 : lookO (mkS [86, 101, 114, 115, 105, 111, 110]) txtEs = some (fcV 104) := by kernel_rfl
theorem rel1 : lookO (mkS [86, 101, 114, 115, 105, 111, 110]) relEs = none := by kernel_rfl
theorem txt2 : lookO (mkS [65, 114, 99, 104, 105, 116, 101, 99, 116, 117, 114, 101]) txtEs = some (fcV 105) := by kernel_rfl
theorem rel2 : lookO (mkS [65, 114, 99, 104, 105, 116, 101, 99, 116, 117, 114, 101]) relEs = none := by kernel_rfl
theorem txt3 : lookO (mkS [79, 114, 105, 103, 105, 110]) txtEs = some (fcV 106) := by kernel_rfl
theorem rel3 : lookO (mkS [79, 114, 105, 103, 105, 110]) relEs = none := by kernel_rfl
theorem rel4 : lookO (mkS [80, 114, 111, 118, 105, 100, 101, 115]) relEs = some (fcV 108) := by kernel_rfl
theorem rel5 : lookO (mkS [68, 101, 112, 101, 110, 100, 115]) relEs = some (fcV 109) := by kernel_rfl
theorem rel6 : lookO (mkS [80, 114, 101, 45, 68, 101, 112, 101, 110, 100, 115]) relEs = some (fcV 110) := by kernel_rfl
theorem rel7 : lookO (mkS [67, 111, 110, 102, 108, 105, 99, 116, 115]) relEs = some (fcV 107) := by kernel_rfl
theorem rel8 : lookO (mkS [66, 114, 101, 97, 107, 115]) relEs = some (fcV 107) := by kernel_rfl
theorem rel9 : lookO (mkS [82, 101, 112, 108, 97, 99, 101, 115]) relEs = some (fcV 111) := by kernel_rfl
theorem rel10 : lookO (mkS [82, 101, 99, 111, 109, 109, 101, 110, 100, 115]) relEs = some (fcV 112) := by kernel_rfl
theorem rel11 : lookO (mkS [69, 110, 104, 97, 110, 99, 101, 115]) relEs = some (fcV 113) := by kernel_rfl
set_option maxHeartbeats 4000000 in
set_option maxRecDepth 100000 in
theorem textFields_any (w : World) : Calls Tryz.prog 57 #[] w fun e w' => ∃ m, e = .returned (.map (some m)) ∧ w'.heap[m]? = some (mapO txtEs) ∧ Below w.heap.size w w' := by
  have hmm := @run_makeMap Tryz.prog
  have HM0 := Lib.hid (map_new w)
  have HB0 : Hid (Below w.heap.size w (w.alloc (.map #[] 0))) := (Below.refl _ _).alloc (Nat.le_refl _) _
  have N0 : Hid (lookO (mkS [80, 97, 99, 107, 97, 103, 101]) ([] : List (ByteArray × Value)) = none) := (by kernel_rfl : _ = _)
  have N1 : Hid (lookO (mkS [86, 101, 114, 115, 105, 111, 110]) ([(mkS [80, 97, 99, 107, 97, 103, 101], fcV 103)] : List (ByteArray × Value)) = none) := (by kernel_rfl : _ = _)
  have N2 : Hid (lookO (mkS [65, 114, 99, 104, 105, 116, 101, 99, 116, 117, 114, 101]) ([(mkS [80, 97, 99, 107, 97, 103, 101], fcV 103), (mkS [86, 101, 114, 115, 105, 111, 110], fcV 104)] : List (ByteArray × Value)) = none) := (by kernel_rfl : _ = _)
  have N3 : Hid (lookO (mkS [79, 114, 105, 103, 105, 110]) ([(mkS [80, 97, 99, 107, 97, 103, 101], fcV 103), (mkS [86, 101, 114, 115, 105, 111, 110], fcV 104), (mkS [65, 114, 99, 104, 105, 116, 101, 99, 116, 117, 114, 101], fcV 105)] : List (ByteArray × Value)) = none) := (by kernel_rfl : _ = _)
  go_enter Tryz.func57, Tryz.ntmps57
  go_wp2_with (first | (refine wpList_insert_map _ rfl _ _ _ 108 rfl 9 118 Tryz.underlying108 Tryz.underlying9 w.heap.size [] rfl HM0.out _ _ rfl rfl N0.out ?_; intro w1 hm ht; have HM1 := Lib.hid hm; have HB1 := Lib.hid (HB0.out.trans (ht.below (B := w.heap.size) (fun k hk => by simp at hk; omega) HB0.out.size)); clear hm ht HM0 HB0 N0) | (refine wpList_insert_map _ rfl _ _ _ 108 rfl 9 118 Tryz.underlying108 Tryz.underlying9 w.heap.size [(mkS [80, 97, 99, 107, 97, 103, 101], fcV 103)] rfl HM1.out _ _ rfl rfl N1.out ?_; intro w2 hm ht; have HM2 := Lib.hid hm; have HB2 := Lib.hid (HB1.out.trans (ht.below (B := w.heap.size) (fun k hk => by simp at hk; omega) HB1.out.size)); clear hm ht HM1 HB1 N1) | (refine wpList_insert_map _ rfl _ _ _ 108 rfl 9 118 Tryz.underlying108 Tryz.underlying9 w.heap.size [(mkS [80, 97, 99, 107, 97, 103, 101], fcV 103), (mkS [86, 101, 114, 115, 105, 111, 110], fcV 104)] rfl HM2.out _ _ rfl rfl N2.out ?_; intro w3 hm ht; have HM3 := Lib.hid hm; have HB3 := Lib.hid (HB2.out.trans (ht.below (B := w.heap.size) (fun k hk => by simp at hk; omega) HB2.out.size)); clear hm ht HM2 HB2 N2) | (refine wpList_insert_map _ rfl _ _ _ 108 rfl 9 118 Tryz.underlying108 Tryz.underlying9 w.heap.size [(mkS [80, 97, 99, 107, 97, 103, 101], fcV 103), (mkS [86, 101, 114, 115, 105, 111, 110], fcV 104), (mkS [65, 114, 99, 104, 105, 116, 101, 99, 116, 117, 114, 101], fcV 105)] rfl HM3.out _ _ rfl rfl N3.out ?_; intro w4 hm ht; have HM4 := Lib.hid hm; have HB4 := Lib.hid (HB3.out.trans (ht.below (B := w.heap.size) (fun k hk => by simp at hk; omega) HB3.out.size)); clear hm ht HM3 HB3 N3))
  go_ret
  exact ⟨_, rfl, HM4.out, HB4.out⟩
set_option maxHeartbeats 4000000 in
set_option maxRecDepth 100000 in
theorem relationFields_any (w : World) : Calls Tryz.prog 58 #[] w fun e w' => ∃ m, e = .returned (.map (some m)) ∧ w'.heap[m]? = some (mapO relEs) ∧ Below w.heap.size w w' := by
  have hmm := @run_makeMap Tryz.prog
  have HM0 := Lib.hid (map_new w)
  have HB0 : Hid (Below w.heap.size w (w.alloc (.map #[] 0))) := (Below.refl _ _).alloc (Nat.le_refl _) _
  have N0 : Hid (lookO (mkS [80, 114, 111, 118, 105, 100, 101, 115]) ([] : List (ByteArray × Value)) = none) := (by kernel_rfl : _ = _)
  have N1 : Hid (lookO (mkS [68, 101, 112, 101, 110, 100, 115]) ([(mkS [80, 114, 111, 118, 105, 100, 101, 115], fcV 108)] : List (ByteArray × Value)) = none) := (by kernel_rfl : _ = _)
  have N2 : Hid (lookO (mkS [80, 114, 101, 45, 68, 101, 112, 101, 110, 100, 115]) ([(mkS [80, 114, 111, 118, 105, 100, 101, 115], fcV 108), (mkS [68, 101, 112, 101, 110, 100, 115], fcV 109)] : List (ByteArray × Value)) = none) := (by kernel_rfl : _ = _)
  have N3 : Hid (lookO (mkS [67, 111, 110, 102, 108, 105, 99, 116, 115]) ([(mkS [80, 114, 111, 118, 105, 100, 101, 115], fcV 108), (mkS [68, 101, 112, 101, 110, 100, 115], fcV 109), (mkS [80, 114, 101, 45, 68, 101, 112, 101, 110, 100, 115], fcV 110)] : List (ByteArray × Value)) = none) := (by kernel_rfl : _ = _)
  have N4 : Hid (lookO (mkS [66, 114, 101, 97, 107, 115]) ([(mkS [80, 114, 111, 118, 105, 100, 101, 115], fcV 108), (mkS [68, 101, 112, 101, 110, 100, 115], fcV 109), (mkS [80, 114, 101, 45, 68, 101, 112, 101, 110, 100, 115], fcV 110), (mkS [67, 111, 110, 102, 108, 105, 99, 116, 115], fcV 107)] : List (ByteArray × Value)) = none) := (by kernel_rfl : _ = _)
  have N5 : Hid (lookO (mkS [82, 101, 112, 108, 97, 99, 101, 115]) ([(mkS [80, 114, 111, 118, 105, 100, 101, 115], fcV 108), (mkS [68, 101, 112, 101, 110, 100, 115], fcV 109), (mkS [80, 114, 101, 45, 68, 101, 112, 101, 110, 100, 115], fcV 110), (mkS [67, 111, 110, 102, 108, 105, 99, 116, 115], fcV 107), (mkS [66, 114, 101, 97, 107, 115], fcV 107)] : List (ByteArray × Value)) = none) := (by kernel_rfl : _ = _)
  have N6 : Hid (lookO (mkS [82, 101, 99, 111, 109, 109, 101, 110, 100, 115]) ([(mkS [80, 114, 111, 118, 105, 100, 101, 115], fcV 108), (mkS [68, 101, 112, 101, 110, 100, 115], fcV 109), (mkS [80, 114, 101, 45, 68, 101, 112, 101, 110, 100, 115], fcV 110), (mkS [67, 111, 110, 102, 108, 105, 99, 116, 115], fcV 107), (mkS [66, 114, 101, 97, 107, 115], fcV 107), (mkS [82, 101, 112, 108, 97, 99, 101, 115], fcV 111)] : List (ByteArray × Value)) = none) := (by kernel_rfl : _ = _)
  have N7 : Hid (lookO (mkS [69, 110, 104, 97, 110, 99, 101, 115]) ([(mkS [80, 114, 111, 118, 105, 100, 101, 115], fcV 108), (mkS [68, 101, 112, 101, 110, 100, 115], fcV 109), (mkS [80, 114, 101, 45, 68, 101, 112, 101, 110, 100, 115], fcV 110), (mkS [67, 111, 110, 102, 108, 105, 99, 116, 115], fcV 107), (mkS [66, 114, 101, 97, 107, 115], fcV 107), (mkS [82, 101, 112, 108, 97, 99, 101, 115], fcV 111), (mkS [82, 101, 99, 111, 109, 109, 101, 110, 100, 115], fcV 112)] : List (ByteArray × Value)) = none) := (by kernel_rfl : _ = _)
  go_enter Tryz.func58, Tryz.ntmps58
  go_wp2_with (first | (refine wpList_insert_map _ rfl _ _ _ 110 rfl 9 115 Tryz.underlying110 Tryz.underlying9 w.heap.size [] rfl HM0.out _ _ rfl rfl N0.out ?_; intro w1 hm ht; have HM1 := Lib.hid hm; have HB1 := Lib.hid (HB0.out.trans (ht.below (B := w.heap.size) (fun k hk => by simp at hk; omega) HB0.out.size)); clear hm ht HM0 HB0 N0) | (refine wpList_insert_map _ rfl _ _ _ 110 rfl 9 115 Tryz.underlying110 Tryz.underlying9 w.heap.size [(mkS [80, 114, 111, 118, 105, 100, 101, 115], fcV 108)] rfl HM1.out _ _ rfl rfl N1.out ?_; intro w2 hm ht; have HM2 := Lib.hid hm; have HB2 := Lib.hid (HB1.out.trans (ht.below (B := w.heap.size) (fun k hk => by simp at hk; omega) HB1.out.size)); clear hm ht HM1 HB1 N1) | (refine wpList_insert_map _ rfl _ _ _ 110 rfl 9 115 Tryz.underlying110 Tryz.underlying9 w.heap.size [(mkS [80, 114, 111, 118, 105, 100, 101, 115], fcV 108), (mkS [68, 101, 112, 101, 110, 100, 115], fcV 109)] rfl HM2.out _ _ rfl rfl N2.out ?_; intro w3 hm ht; have HM3 := Lib.hid hm; have HB3 := Lib.hid (HB2.out.trans (ht.below (B := w.heap.size) (fun k hk => by simp at hk; omega) HB2.out.size)); clear hm ht HM2 HB2 N2) | (refine wpList_insert_map _ rfl _ _ _ 110 rfl 9 115 Tryz.underlying110 Tryz.underlying9 w.heap.size [(mkS [80, 114, 111, 118, 105, 100, 101, 115], fcV 108), (mkS [68, 101, 112, 101, 110, 100, 115], fcV 109), (mkS [80, 114, 101, 45, 68, 101, 112, 101, 110, 100, 115], fcV 110)] rfl HM3.out _ _ rfl rfl N3.out ?_; intro w4 hm ht; have HM4 := Lib.hid hm; have HB4 := Lib.hid (HB3.out.trans (ht.below (B := w.heap.size) (fun k hk => by simp at hk; omega) HB3.out.size)); clear hm ht HM3 HB3 N3) | (refine wpList_insert_map _ rfl _ _ _ 110 rfl 9 115 Tryz.underlying110 Tryz.underlying9 w.heap.size [(mkS [80, 114, 111, 118, 105, 100, 101, 115], fcV 108), (mkS [68, 101, 112, 101, 110, 100, 115], fcV 109), (mkS [80, 114, 101, 45, 68, 101, 112, 101, 110, 100, 115], fcV 110), (mkS [67, 111, 110, 102, 108, 105, 99, 116, 115], fcV 107)] rfl HM4.out _ _ rfl rfl N4.out ?_; intro w5 hm ht; have HM5 := Lib.hid hm; have HB5 := Lib.hid (HB4.out.trans (ht.below (B := w.heap.size) (fun k hk => by simp at hk; omega) HB4.out.size)); clear hm ht HM4 HB4 N4) | (refine wpList_insert_map _ rfl _ _ _ 110 rfl 9 115 Tryz.underlying110 Tryz.underlying9 w.heap.size [(mkS [80, 114, 111, 118, 105, 100, 101, 115], fcV 108), (mkS [68, 101, 112, 101, 110, 100, 115], fcV 109), (mkS [80, 114, 101, 45, 68, 101, 112, 101, 110, 100, 115], fcV 110), (mkS [67, 111, 110, 102, 108, 105, 99, 116, 115], fcV 107), (mkS [66, 114, 101, 97, 107, 115], fcV 107)] rfl HM5.out _ _ rfl rfl N5.out ?_; intro w6 hm ht; have HM6 := Lib.hid hm; have HB6 := Lib.hid (HB5.out.trans (ht.below (B := w.heap.size) (fun k hk => by simp at hk; omega) HB5.out.size)); clear hm ht HM5 HB5 N5) | (refine wpList_insert_map _ rfl _ _ _ 110 rfl 9 115 Tryz.underlying110 Tryz.underlying9 w.heap.size [(mkS [80, 114, 111, 118, 105, 100, 101, 115], fcV 108), (mkS [68, 101, 112, 101, 110, 100, 115], fcV 109), (mkS [80, 114, 101, 45, 68, 101, 112, 101, 110, 100, 115], fcV 110), (mkS [67, 111, 110, 102, 108, 105, 99, 116, 115], fcV 107), (mkS [66, 114, 101, 97, 107, 115], fcV 107), (mkS [82, 101, 112, 108, 97, 99, 101, 115], fcV 111)] rfl HM6.out _ _ rfl rfl N6.out ?_; intro w7 hm ht; have HM7 := Lib.hid hm; have HB7 := Lib.hid (HB6.out.trans (ht.below (B := w.heap.size) (fun k hk => by simp at hk; omega) HB6.out.size)); clear hm ht HM6 HB6 N6) | (refine wpList_insert_map _ rfl _ _ _ 110 rfl 9 115 Tryz.underlying110 Tryz.underlying9 w.heap.size [(mkS [80, 114, 111, 118, 105, 100, 101, 115], fcV 108), (mkS [68, 101, 112, 101, 110, 100, 115], fcV 109), (mkS [80, 114, 101, 45, 68, 101, 112, 101, 110, 100, 115], fcV 110), (mkS [67, 111, 110, 102, 108, 105, 99, 116, 115], fcV 107), (mkS [66, 114, 101, 97, 107, 115], fcV 107), (mkS [82, 101, 112, 108, 97, 99, 101, 115], fcV 111), (mkS [82, 101, 99, 111, 109, 109, 101, 110, 100, 115], fcV 112)] rfl HM7.out _ _ rfl rfl N7.out ?_; intro w8 hm ht; have HM8 := Lib.hid hm; have HB8 := Lib.hid (HB7.out.trans (ht.below (B := w.heap.size) (fun k hk => by simp at hk; omega) HB7.out.size)); clear hm ht HM7 HB7 N7))
  go_ret
  exact ⟨_, rfl, HM8.out, HB8.out⟩
theorem cl_relationFields_1 (p : Nat) (w : World) (cs : Array Value) (hp : Blk w p 42 cs) : Calls Tryz.prog 107 #[.pointer (some ⟨p, 0, none⟩)] w fun e w' => e = .returned (.pointer (some ⟨p, 7, none⟩)) ∧ w' = w := by
  go_enter Tryz.func107, Tryz.ntmps107
  go_wp2_with fail
  go_ret
  exact ⟨rfl, rfl⟩
theorem cl_relationFields_2 (p : Nat) (w : World) (cs : Array Value) (hp : Blk w p 42 cs) : Calls Tryz.prog 108 #[.pointer (some ⟨p, 0, none⟩)] w fun e w' => e = .returned (.pointer (some ⟨p, 4, none⟩)) ∧ w' = w := by
  go_enter Tryz.func108, Tryz.ntmps108
  go_wp2_with fail
  go_ret
  exact ⟨rfl, rfl⟩
theorem cl_relationFields_3 (p : Nat) (w : World) (cs : Array Value) (hp : Blk w p 42 cs) : Calls Tryz.prog 109 #[.pointer (some ⟨p, 0, none⟩)] w fun e w' => e = .returned (.pointer (some ⟨p, 5, none⟩)) ∧ w' = w := by
  go_enter Tryz.func109, Tryz.ntmps109
  go_wp2_with fail
  go_ret
  exact ⟨rfl, rfl⟩
theorem cl_relationFields_4 (p : Nat) (w : World) (cs : Array Value) (hp : Blk w p 42 cs) : Calls Tryz.prog 110 #[.pointer (some ⟨p, 0, none⟩)] w fun e w' => e = .returned (.pointer (some ⟨p, 6, none⟩)) ∧ w' = w := by
  go_enter Tryz.func110, Tryz.ntmps110
  go_wp2_with fail
  go_ret
  exact ⟨rfl, rfl⟩
theorem cl_relationFields_5 (p : Nat) (w : World) (cs : Array Value) (hp : Blk w p 42 cs) : Calls Tryz.prog 111 #[.pointer (some ⟨p, 0, none⟩)] w fun e w' => e = .returned (.pointer (some ⟨p, 8, none⟩)) ∧ w' = w := by
  go_enter Tryz.func111, Tryz.ntmps111
  go_wp2_with fail
  go_ret
  exact ⟨rfl, rfl⟩
theorem cl_relationFields_6 (p : Nat) (w : World) (cs : Array Value) (hp : Blk w p 42 cs) : Calls Tryz.prog 112 #[.pointer (some ⟨p, 0, none⟩)] w fun e w' => e = .returned (.pointer (some ⟨p, 9, none⟩)) ∧ w' = w := by
  go_enter Tryz.func112, Tryz.ntmps112
  go_wp2_with fail
  go_ret
  exact ⟨rfl, rfl⟩
theorem cl_relationFields_7 (p : Nat) (w : World) (cs : Array Value) (hp : Blk w p 42 cs) : Calls Tryz.prog 113 #[.pointer (some ⟨p, 0, none⟩)] w fun e w' => e = .returned (.pointer (some ⟨p, 10, none⟩)) ∧ w' = w := by
  go_enter Tryz.func113, Tryz.ntmps113
  go_wp2_with fail
  go_ret
  exact ⟨rfl, rfl⟩
theorem cl_textFields_1 (p : Nat) (w : World) (cs : Array Value) (hp : Blk w p 42 cs) : Calls Tryz.prog 103 #[.pointer (some ⟨p, 0, none⟩)] w fun e w' => e = .returned (.pointer (some ⟨p, 0, none⟩)) ∧ w' = w := by
  go_enter Tryz.func103, Tryz.ntmps103
  go_wp2_with fail
  go_ret
  exact ⟨rfl, rfl⟩
theorem cl_textFields_2 (p : Nat) (w : World) (cs : Array Value) (hp : Blk w p 42 cs) : Calls Tryz.prog 104 #[.pointer (some ⟨p, 0, none⟩)] w fun e w' => e = .returned (.pointer (some ⟨p, 1, none⟩)) ∧ w' = w := by
  go_enter Tryz.func104, Tryz.ntmps104
  go_wp2_with fail
  go_ret
  exact ⟨rfl, rfl⟩
theorem cl_textFields_3 (p : Nat) (w : World) (cs : Array Value) (hp : Blk w p 42 cs) : Calls Tryz.prog 105 #[.pointer (some ⟨p, 0, none⟩)] w fun e w' => e = .returned (.pointer (some ⟨p, 2, none⟩)) ∧ w' = w := by
  go_enter Tryz.func105, Tryz.ntmps105
  go_wp2_with fail
  go_ret
  exact ⟨rfl, rfl⟩
theorem cl_textFields_4 (p : Nat) (w : World) (cs : Array Value) (hp : Blk w p 42 cs) : Calls Tryz.prog 106 #[.pointer (some ⟨p, 0, none⟩)] w fun e w' => e = .returned (.pointer (some ⟨p, 3, none⟩)) ∧ w' = w := by
  go_enter Tryz.func106, Tryz.ntmps106
  go_wp2_with fail
  go_ret
  exact ⟨rfl, rfl⟩
theorem eqlRf (f : Fn) (B K : Array Value) (w : World) : (Go.binOp .eql 115 (.func f B K) .nilFunc).run Tryz.prog w = .ok (.bool false) w := by kernel_rfl
theorem eqlRn (w : World) : (Go.binOp .eql 115 .nilFunc .nilFunc).run Tryz.prog w = .ok (.bool true) w := by kernel_rfl
end Go.Proofs.YtljldbdjkjllhaaGreatDoor

/- A stanza in memory, and the package that is made of it. -/
namespace Go.Proofs.YtljldbdjkjllhaaGreatDoor
set_option linter.unusedSimpArgs false
set_option linter.unusedVariables false
open Go.RowKit Go.MapKept

abbrev Stz := List (Bs × List Bs)
def getS : Stz → Bs → List Bs
  | [], _ => []
  | (a, l) :: r, n => if n = a then l else getS r n
def szEs : Stz → List Value → List (ByteArray × Value)
  | (a, _) :: r, v :: t => (mkS a, v) :: szEs r t
  | _, _ => []
def RowsS (w : World) (B : Nat) : Stz → List Value → Prop
  | [], [] => True
  | (_, l) :: r, v :: t => l ≠ [] ∧ w.ownsRow B 9 1 v l.length (l.map fun p => Value.string (mkS p)) ∧ RowsS w B r t
  | _, _ => False
def joinX (l : List Bs) : Bs := Lib.join l [32]
structure SzAt (w : World) (B sm : Nat) (s : Stz) (vs : List Value) : Prop where
  map : w.heap[sm]? = some (mapO (szEs s vs))
  rows : RowsS w B s vs
theorem RowsS.below {w w' : World} {B : Nat} (hb : Below w.heap.size w w') : ∀ {s : Stz} {vs : List Value}, RowsS w B s vs → RowsS w' B s vs
  | [], [], _ => trivial
  | (_, l) :: r, v :: t, ⟨h1, h2, h3⟩ => ⟨h1, own_turned h2 (Turned.of_below hb []) (fun _ _ => by simp), h3.below hb⟩
theorem SzAt.below {w w' : World} {B sm : Nat} {s : Stz} {vs : List Value} (h : SzAt w B sm s vs) (hb : Below w.heap.size w w') : SzAt w' B sm s vs := ⟨map_below h.map hb, h.rows.below hb⟩
section
variable {P : Program} {w : World} {mty kt et : TypeId} {m : Nat} {l : List (ByteArray × Value)} {k : ByteArray}
theorem run_lookS (hm : P.underlying mty = some (.map kt et)) (hd : P.underlying kt = some .string) (hz : ∀ w, (zeroValue et).run P w = .ok (.slice none 0 0) w) (hb : w.heap[m]? = some (mapO l)) :
    (Instr.lookup mty (.map (some m)) (.string k) false).run P w = .ok ((lookO k l).getD (.slice none 0 0)) w := by
  have hk : IsKey .string (.string k) := by simp [IsKey]
  unfold mapO at hb
  rcases find_es k l 0 0 with ⟨h1, h2⟩ | ⟨p, u, h1, h2⟩
  · rw [h1]
    simp [Instr.lookup, run_underlying hm, Go.MapKept.run_getObj_map hb, run_checkKey hd hk, run_findKey hd h2, hz, Result.andThen]
  · rw [h1]
    simp [Instr.lookup, run_underlying hm, Go.MapKept.run_getObj_map hb, run_checkKey hd hk, run_findKey hd h2, Result.andThen]
end
theorem zeroSs : ∀ w, (zeroValue 37).run Tryz.prog w = .ok (.slice none 0 0) w := fun w => by kernel_rfl
/-- A field's lines in memory: nil, or a row. -/
def GotS (w : World) (l : List Bs) (v : Value) : Prop := (l = [] ∧ v = .slice none 0 0) ∨ ∃ g c, v = .slice (some ⟨g, 0, none⟩) l.length c ∧ l.length ≤ c ∧ c ≤ maxLen ∧ l ≠ [] ∧ g < w.heap.size ∧ ∀ (j : Nat) (p : Bs), l[j]? = some p → w.cell? ⟨g, j, none⟩ = some (.string (mkS p))
theorem mkS_inj_ {a b : Bs} (h : mkS a = mkS b) : a = b := by
  have := congrArg (fun s : ByteArray => s.data.toList) h
  simpa [mkS_list] using this
theorem look_got {w : World} {B : Nat} (n : Bs) : ∀ {s : Stz} {vs : List Value}, RowsS w B s vs → GotS w (getS s n) ((lookO (mkS n) (szEs s vs)).getD (.slice none 0 0))
  | [], [], _ => .inl ⟨rfl, rfl⟩
  | (a, l) :: r, v :: t, ⟨h1, h2, h3⟩ => by
    show GotS w (if n = a then l else getS r n) (((if mkS n = mkS a then some v else lookO (mkS n) (szEs r t))).getD _)
    by_cases h : n = a
    · rw [if_pos h, if_pos (by rw [h])]
      have hat : ∀ (j : Nat) (p : Bs), l[j]? = some p → ∃ g, (∃ c, v = .slice (some ⟨g, 0, none⟩) l.length c ∧ l.length ≤ c ∧ c ≤ maxLen) ∧ w.cell? ⟨g, j, none⟩ = some (.string (mkS p)) := fun j p hp => by
        obtain ⟨A, c, rfl, hc1, hc2⟩ := own_form' h2
        obtain ⟨g, rfl, hc⟩ := own_at_ h2 (k := j) (u := .string (mkS p)) (by rw [List.getElem?_map, hp]; rfl)
        exact ⟨g, ⟨c, rfl, hc1, hc2⟩, hc⟩
      obtain ⟨x, hx⟩ : ∃ x, l[0]? = some x := ⟨_, List.getElem?_eq_getElem (by cases l with | nil => exact absurd rfl h1 | cons _ _ => simp)⟩
      obtain ⟨g, ⟨c, rfl, hc1, hc2⟩, hcell⟩ := hat 0 x hx
      refine .inr ⟨g, c, rfl, hc1, hc2, h1, cell_lt hcell, fun j p hp => ?_⟩
      obtain ⟨g', ⟨c', e, _, _⟩, hc⟩ := hat j p hp
      injection e with e
      injection e with e
      injection e with e
      subst e
      exact hc
    · rw [if_neg h, if_neg (fun e => h (mkS_inj_ e))]
      exact look_got n h3
theorem join_any {w : World} {l : List Bs} {v : Value} (h : GotS w l v) (hz : (joinX l).length ≤ 100000) (hn : l.length ≤ 1000000) :
    Calls Tryz.prog 59 #[v, .string ⟨#[32]⟩] w fun e w' => e = .returned (.string (mkS (joinX l))) ∧ Below w.heap.size w w' := by
  rcases h with ⟨rfl, rfl⟩ | ⟨g, c, rfl, hc1, hc2, hne, hg, hcl⟩
  · refine (Tryz.strings_Join_none none 0 ⟨#[32]⟩ w).mono ?_
    rintro e w' ⟨rfl, rfl⟩
    exact ⟨rfl, Below.refl _ _⟩
  · have hl : (l.map mkS).length = l.length := List.length_map ..
    have hmap : (l.map mkS).map (fun s => s.data.toList) = l := by
      rw [List.map_map]
      have : ((fun s : ByteArray => s.data.toList) ∘ mkS) = id := by funext x; exact mkS_list x
      rw [this, List.map_id]
    have := Tryz.strings_Join g 0 c (l.map mkS) ⟨#[32]⟩ w (fun j x hx => by
      rw [List.getElem?_map] at hx
      obtain ⟨p, hp, rfl⟩ := Option.map_eq_some_iff.1 hx
      rw [Nat.zero_add]
      exact hcl j p hp) hg (by rw [hl]; omega) (by rw [hl]; exact hc1) (by rw [hmap]; unfold joinX at hz; show (Lib.join l [32]).length ≤ _; omega)
    rw [hl, hmap] at this
    exact this
/-! The package. -/
def updF {α : Type} (f : Nat → α) (i : Nat) (x : α) (j : Nat) : α := if j = i then x else f j
def rowT (T : Nat → Bs) (ss : Nat → Value) : Array Value := #[.string (mkS (T 0)), .string (mkS (T 1)), .string (mkS (T 2)), .string (mkS (T 3)), ss 0, ss 1, ss 2, ss 3, ss 4, ss 5, ss 6, .slice none 0 0]
structure PkM (w0 w : World) (pb : Nat) (T : Nat → Bs) (D : Nat → List Ev.Dep) (ss : Nat → Value) (rs : Nat → Ev.Rows5) (F : List Nat) : Prop where
  blk : Blk w pb 42 (rowT T ss)
  own : ∀ i, i < 7 → w.ownsRow w0.heap.size 44 5 (ss i) (rs i).length (Ev.cells5 (rs i))
  is : ∀ i, i < 7 → (rs i).map Prod.fst = D i
  lay : ∀ i, i < 7 → ∀ x ∈ rs i, Ev.Lay w (fun b => b ∈ F) x.1 x.2
  far : ∀ i, i < 7 → ∀ b ∈ F, (ss i).ownBlock ≠ some b
  apart : ∀ i j, i < 7 → j < 7 → i ≠ j → ∀ k, (ss i).ownBlock = some k → (ss j).ownBlock ≠ some k
  dep : ∀ b ∈ F, w0.heap.size ≤ b ∧ ∃ cs, Blk w b 44 cs
  pge : w0.heap.size ≤ pb
  bel : Below w0.heap.size w0 w
def PkSt (w0 w : World) (pb : Nat) (T : Nat → Bs) (D : Nat → List Ev.Dep) : Prop := ∃ ss rs F, PkM w0 w pb T D ss rs F
section
variable {w0 w w' w2 : World} {pb : Nat} {T : Nat → Bs} {D : Nat → List Ev.Dep} {ss : Nat → Value} {rs : Nat → Ev.Rows5} {F : List Nat}
theorem PkM.below (h : PkM w0 w pb T D ss rs F) (hb : Below w.heap.size w w') : PkM w0 w' pb T D ss rs F :=
  ⟨Blk.mono h.blk hb, fun i hi => own_turned (h.own i hi) (Turned.of_below hb []) (fun _ _ => by simp), h.is, fun i hi x hx => Ev.Lay.stay (fun _ h => h) (Ev.StayS.below' hb) x.1 x.2 (h.lay i hi x hx), h.far, h.apart,
    fun b hb' => by
      obtain ⟨h1, cs, h2⟩ := h.dep b hb'
      exact ⟨h1, cs, Blk.mono h2 hb⟩, h.pge, h.bel.trans (hb.mono h.bel.size)⟩
theorem rowT_set (T : Nat → Bs) (ss : Nat → Value) (x : Bs) : ∀ i, i < 4 → (rowT T ss).setIfInBounds i (.string (mkS x)) = rowT (updF T i x) ss
  | 0, _ => rfl
  | 1, _ => rfl
  | 2, _ => rfl
  | 3, _ => rfl
  | n + 4, h => by omega
theorem rowT_put (T : Nat → Bs) (ss : Nat → Value) (v : Value) : ∀ i, i < 7 → (rowT T ss).setIfInBounds (4 + i) v = rowT T (updF ss i v)
  | 0, _ => rfl
  | 1, _ => rfl
  | 2, _ => rfl
  | 3, _ => rfl
  | 4, _ => rfl
  | 5, _ => rfl
  | 6, _ => rfl
  | n + 7, h => by omega
theorem PkM.text (h : PkM w0 w pb T D ss rs F) (i : Nat) (hi : i < 4) (x : Bs) : PkM w0 (w.setCell ⟨pb, i, none⟩ (.string (mkS x))) pb (updF T i x) D ss rs F := by
  have ht : Turned [pb] w (w.setCell ⟨pb, i, none⟩ (.string (mkS x))) := (Turned.refl _ _).setCell (.inl (by simp)) _
  have hn : ∀ b ∈ F, b ∉ [pb] := fun b hb hm => by
    obtain ⟨_, cs, h2⟩ := h.dep b hb
    simp at hm
    exact Blk.kind h2 h.blk (by decide) hm
  refine ⟨by rw [← rowT_set T ss x i hi]; exact h.blk.set_ i _, fun j hj => own_turned (h.own j hj) ht (fun k hk hm => ?_), h.is, fun j hj y hy => Ev.Lay.stay (fun _ h => h) (Ev.StayS.turned ht hn) y.1 y.2 (h.lay j hj y hy), h.far, h.apart, fun b hb => ?_, h.pge, h.bel.trans (ht.below (fun k hk => by simp at hk; rw [hk]; exact h.pge) h.bel.size)⟩
  · simp at hm
    exact own_kind (h.own j hj) h.blk (by decide) (by rw [hk, hm])
  · obtain ⟨h1, cs, h2⟩ := h.dep b hb
    exact ⟨h1, cs, h2.turned ht (hn b hb)⟩
theorem updF_same {α : Type} (f : Nat → α) (i : Nat) (x : α) : updF f i x i = x := if_pos rfl
theorem updF_other {α : Type} (f : Nat → α) {i j : Nat} (x : α) (h : j ≠ i) : updF f i x j = f j := if_neg h
/-- A list grows by what relations answered. -/
theorem PkM.put (h : PkM w0 w pb T D ss rs F) (hb : Below w.heap.size w w') {v : Value} {r : Ev.Rows5} {F' : List Nat} (hr : ReM w w' v r F') {i : Nat} (hi : i < 7) {v'' : Value} {w'' : World}
    (hown : w''.ownsRow w0.heap.size 44 5 v'' ((rs i).length + r.length) (Ev.cells5 (rs i) ++ Ev.cells5 r)) (hg : w'.grownBy w'' (ss i).ownBlock) (hat : v''.ownBlock = (ss i).ownBlock ∨ v''.ownBlock = some w'.heap.size) :
    PkM w0 (w''.setCell ⟨pb, 4 + i, none⟩ v'') pb T (updF D i (D i ++ r.map Prod.fst)) (updF ss i v'') (updF rs i (rs i ++ r)) (F' ++ F) ∧ Turned (pb :: (ss i).ownBlock.toList) w' (w''.setCell ⟨pb, 4 + i, none⟩ v'') := by
  have h' := h.below hb
  have ht1 : Turned (pb :: (ss i).ownBlock.toList) w' w'' := (grown_turned hg).more (fun k hk => List.mem_cons_of_mem _ hk)
  have hblk : Blk w'' pb 42 (rowT T ss) := h'.blk.turned (grown_turned hg) (fun hm => own_kind (h'.own i hi) h'.blk (by decide) (by simpa using hm))
  have ht : Turned (pb :: (ss i).ownBlock.toList) w' (w''.setCell ⟨pb, 4 + i, none⟩ v'') := ht1.setCell (.inl (by simp)) _
  have hdep : ∀ b ∈ F' ++ F, w0.heap.size ≤ b ∧ (∃ cs, Blk w' b 44 cs) ∧ b ∉ pb :: (ss i).ownBlock.toList := fun b hb' => by
    have hne : ∀ cs, Blk w' b 44 cs → b ≠ pb := fun cs hB e => Blk.kind hB h'.blk (by decide) e
    rcases List.mem_append.1 hb' with hm | hm
    · obtain ⟨h1, ⟨cs, h2⟩, h3⟩ := hr.dep b hm
      refine ⟨Nat.le_trans h.bel.size h1, ⟨cs, h2⟩, fun hx => ?_⟩
      rcases List.mem_cons.1 hx with e | hx
      · exact hne cs h2 e
      · have hx' : (ss i).ownBlock = some b := by simpa using hx
        have := own_lt (h.own i hi) hx'
        omega
    · obtain ⟨h1, cs, h2⟩ := h'.dep b hm
      refine ⟨h1, ⟨cs, h2⟩, fun hx => ?_⟩
      rcases List.mem_cons.1 hx with e | hx
      · exact hne cs h2 e
      · exact h.far i hi b hm (by simpa using hx)
  have hst : Ev.StayS (fun b => b ∈ F' ++ F) w' (w''.setCell ⟨pb, 4 + i, none⟩ v'') := Ev.StayS.turned ht (fun b hb' hm => (hdep b hb').2.2 hm)
  have hvlt : ∀ k, v''.ownBlock = some k → (ss i).ownBlock = some k ∨ k = w'.heap.size := fun k hk => by
    rcases hat with e | e
    · exact .inl (by rw [← e]; exact hk)
    · rw [e] at hk
      injection hk with hk
      exact .inr hk.symm
  refine ⟨⟨by rw [← rowT_put T ss v'' i hi]; exact hblk.set_ _ _, fun j hj => ?_, fun j hj => ?_, fun j hj x hx => ?_, fun j hj b hb' hv => ?_, fun j k hj hk hne q hq hq2 => ?_, fun b hb' => ?_, h.pge, h'.bel.trans (ht.below (fun k hk => ?_) h'.bel.size)⟩, ht⟩
  · by_cases e : j = i
    · subst e
      rw [updF_same, updF_same, List.length_append, Ev.cells5_append]
      exact own_setCell hown (own_kind hown hblk (by decide)) _
    · rw [updF_other _ _ e, updF_other _ _ e]
      refine own_turned (h'.own j hj) ht (fun k hk hm => ?_)
      rcases List.mem_cons.1 hm with e2 | hm
      · exact own_kind (h'.own j hj) h'.blk (by decide) (by rw [hk, e2])
      · exact h.apart j i hj hi e k hk (by simpa using hm)
  · by_cases e : j = i
    · subst e
      rw [updF_same, updF_same, List.map_append, h.is j hj]
    · rw [updF_other _ _ e, updF_other _ _ e]
      exact h.is j hj
  · by_cases e : j = i
    · subst e
      rw [updF_same] at hx
      rcases List.mem_append.1 hx with hx | hx
      · exact Ev.Lay.stay (fun _ h => h) hst x.1 x.2 (Ev.Lay.stay (fun b hb => List.mem_append_right _ hb) (Ev.StayS.refl _ _) x.1 x.2 (h'.lay j hj x hx))
      · exact Ev.Lay.stay (fun _ h => h) hst x.1 x.2 (Ev.Lay.stay (fun b hb => List.mem_append_left _ hb) (Ev.StayS.refl _ _) x.1 x.2 (hr.lay x hx))
    · rw [updF_other _ _ e] at hx
      exact Ev.Lay.stay (fun _ h => h) hst x.1 x.2 (Ev.Lay.stay (fun b hb => List.mem_append_right _ hb) (Ev.StayS.refl _ _) x.1 x.2 (h'.lay j hj x hx))
  · obtain ⟨_, ⟨cs, hB⟩, hnm⟩ := hdep b hb'
    by_cases e : j = i
    · subst e
      rw [updF_same] at hv
      rcases hvlt b hv with e2 | e2
      · exact hnm (List.mem_cons_of_mem _ (by rw [e2]; simp))
      · have := hB.lt
        omega
    · rw [updF_other _ _ e] at hv
      rcases List.mem_append.1 hb' with hm | hm
      · have h1 := (hr.dep b hm).1
        have := own_lt (h.own j hj) hv
        omega
      · exact h.far j hj b hm hv
  · have hlt : ∀ j k, j < 7 → (ss j).ownBlock = some k → k < w'.heap.size := fun j k hj hk => own_lt (h'.own j hj) hk
    by_cases e : j = i
    · subst e
      rw [updF_same] at hq
      rw [updF_other _ _ (fun e => hne e.symm)] at hq2
      rcases hvlt q hq with e2 | e2
      · exact h.apart j k hj hk hne q e2 hq2
      · have := hlt k q hk hq2
        omega
    · rw [updF_other _ _ e] at hq
      by_cases e3 : k = i
      · subst e3
        rw [updF_same] at hq2
        rcases hvlt q hq2 with e2 | e2
        · exact h.apart j k hj hk hne q hq e2
        · have := hlt j q hj hq
          omega
      · rw [updF_other _ _ e3] at hq2
        exact h.apart j k hj hk hne q hq hq2
  · obtain ⟨h1, ⟨cs, h2⟩, h3⟩ := hdep b hb'
    exact ⟨h1, cs, h2.turned ht h3⟩
  · rcases List.mem_cons.1 hk with rfl | hk
    · exact h.pge
    · exact ((h.own i hi).lt k (by simpa using hk)).1
end
end Go.Proofs.YtljldbdjkjllhaaGreatDoor
