/- Whether a part may be: mayBe. What gives up is caught: caught and its closure. A map from pointers to numbers, whose pointers lead to lists of dependencies that nobody has marked. All parts of a dependency. -/
import Derived.Test.YtljldbdjkjllhaaGreatDoorWha
import Derived.Defers
import Derived.Recover
import Derived.Laws.Pointers
import Derived.LaidEqlPtr
/- Whether a part may be: mayBe. What gives up is caught: caught and its closure. -/
namespace Go.Proofs.YtljldbdjkjllhaaGreatDoor.Ev
set_option linter.unusedSimpArgs false
set_option linter.unusedVariables false
open Go.RowKit

theorem part_leaf {d : Dep} (h : d.kind = 1) : mayPart d = (nameB d.name.data.toList && mayCmp d.op d.evr.data.toList && decide (d.args.length = 0)) := by
  obtain ⟨k, n, o, e, ds⟩ := d
  unfold mayPart
  rw [if_pos h]
theorem part_node {d : Dep} (h : d.kind ≠ 1) : mayPart d = (decide (d.name.data.toList = []) && decide (d.op = 0) && decide (d.evr.data.toList = []) && numArgs d.kind d.args) := by
  obtain ⟨k, n, o, e, ds⟩ := d
  unfold mayPart
  rw [if_neg h]
theorem blank_no {s : ByteArray} (h : s.data.toList ≠ []) : s.size ≠ 0 := fun e => h (list_nil e)

set_option maxHeartbeats 4000000 in
set_option maxRecDepth 100000 in
theorem mayBe_leaf (d : Dep) (s : Value) (S : Nat → Prop) (w0 : World) (hL : Lay w0 S d s) (hT : Tabs w0) (hk : d.kind = 1) :
    Calls Tryz.prog 253 #[.agg (rowD d s)] w0 fun e w' => e = .returned (.bool (mayPart d)) ∧ Below w0.heap.size w0 w' := by
  obtain ⟨A, c, rfl, hl, hc⟩ := hL.form_
  have hp := part_leaf hk
  have CN := Lib.hid (fun w h => name_any d.name w h)
  have CM := Lib.hid (fun w => mayCompare_any d.op d.evr w)
  unfold rowD
  rw [hk, hp]
  clear hp hk hL
  generalize nameB d.name.data.toList = x at *
  generalize mayCmp d.op d.evr.data.toList = y at *
  generalize d.name = n at *
  generalize d.op = o at *
  generalize d.evr = v at *
  generalize d.args.length = m at *
  have HT := Lib.hid (hT.below ((Below.refl _ _).alloc (Nat.le_refl _) (.cells #[.int .i64 1, .string n, .int .i64 o, .string v, .slice A m c] 44)) hT.two)
  have HB : Hid (Below w0.heap.size w0 (w0.alloc (.cells #[.int .i64 1, .string n, .int .i64 o, .string v, .slice A m c] 44))) := (Below.refl _ _).alloc (Nat.le_refl _) _
  have K := Lib.hid (Blk.new w0 44 #[.int .i64 1, .string n, .int .i64 o, .string v, .slice A m c])
  clear hT
  go_enter Tryz.func253, Tryz.ntmps253
  go_wp2_with fail
  refine (CN.out _ HT.out).mono ?_
  rintro e w1 ⟨rfl, hb1⟩
  have HB1 : Hid (Below w0.heap.size w0 w1) := HB.out.trans (hb1.mono (by simp))
  have hz1 := HB1.out.size
  have K1 := Lib.hid (K.out.below hb1 (by simp))
  have c0 := K1.out.cell 0
  have c1 := K1.out.cell 1
  have c2 := K1.out.cell 2
  have c3 := K1.out.cell 3
  have c4 := K1.out.cell 4
  clear hb1 K HB HT CN
  cases x with
  | false =>
    go_wp2_with fail
    go_ret
    exact ⟨rfl, HB1.out⟩
  | true =>
    go_wp2_with fail
    refine (CM.out _).mono ?_
    rintro e w2 ⟨rfl, hb2⟩
    have HB2 : Hid (Below w0.heap.size w0 w2) := HB1.out.trans (hb2.mono hz1)
    clear hb2 HB1 K1 c0 c1 c2 c3 c4 CM
    cases y with
    | false =>
      go_wp2_with fail
      go_ret
      exact ⟨rfl, HB2.out⟩
    | true =>
      go_wp2_with fail
      go_ret
      refine ⟨ret_bool ?_, HB2.out⟩
      rw [Bool.eq_iff_iff]
      simp <;> omega

set_option maxHeartbeats 8000000 in
set_option maxRecDepth 100000 in
theorem mayBe_node (d : Dep) (s : Value) (S : Nat → Prop) (w0 : World) (hL : Lay w0 S d s) (hk : d.kind ≠ 1) :
    Calls Tryz.prog 253 #[.agg (rowD d s)] w0 fun e w' => e = .returned (.bool (mayPart d)) ∧ Below w0.heap.size w0 w' := by
  obtain ⟨A, c, rfl, hl, hc, hA⟩ := hL.args_
  have HP := Lib.hid (part_node hk)
  have HB : Hid (Below w0.heap.size w0 (w0.alloc (.cells (rowD d (.slice A d.args.length c)) 44))) := (Below.refl _ _).alloc (Nat.le_refl _) _
  have CC := Lib.hid (fun w (hw : Below w0.heap.size w0 w) => containsFunc_any d.args A c S w (hA.stay (fun _ h => h) (StayS.below' hw)) hl hc)
  have N2 := Lib.hid (fun (h : d.kind = 2 ∨ d.kind = 3) => show numArgs d.kind d.args = decide (2 ≤ d.args.length) by unfold numArgs; rw [if_pos h])
  have N4 := Lib.hid (fun (h : d.kind = 4) => show numArgs d.kind d.args = (decide (d.args.length = 2) || decide (d.args.length = 3)) by rw [h]; rfl)
  have N5 := Lib.hid (fun (h : d.kind = 5) => show numArgs d.kind d.args = (decide (2 ≤ d.args.length) && d.args.all single) by rw [h]; rfl)
  have N6 := Lib.hid (fun (h : d.kind = 6) => show numArgs d.kind d.args = (decide (d.args.length = 2) && d.args.all single) by rw [h]; rfl)
  have N0 := Lib.hid (fun (h : ¬ (d.kind = 2 ∨ d.kind = 3) ∧ d.kind ≠ 4 ∧ d.kind ≠ 5 ∧ d.kind ≠ 6) => show numArgs d.kind d.args = false by unfold numArgs; rw [if_neg h.1, if_neg h.2.1, if_neg h.2.2.1, if_neg h.2.2.2])
  unfold rowD at HB ⊢
  generalize mayPart d = x at *
  generalize d.name = n at *
  generalize d.op = o at *
  generalize d.evr = v at *
  generalize numArgs d.kind d.args = z at *
  generalize d.args.all single = q at *
  generalize d.args.length = m at *
  generalize d.kind = k at *
  have tk : (k == 1) = false := beq_eq_false_iff_ne.2 hk
  clear hA hL
  unfold maxLen at hc
  by_cases hn : n.data.toList = []
  · obtain rfl := str_is hn
    by_cases ho : o = 0
    · subst ho
      by_cases hv : v.data.toList = []
      · obtain rfl := str_is hv
        have HX : Hid (x = z) := by show x = z; rw [HP.out]; simp
        clear HP hn hv
        have HB' := HB.out
        clear HB
        by_cases k2 : k = 2 ∨ k = 3
        · have HZ : Hid (x = decide (2 ≤ m)) := HX.out.trans (N2.out k2)
          clear N2 N4 N5 N6 N0 HX CC
          have HB := Lib.hid HB'
          clear HB'
          rcases k2 with rfl | rfl
          all_goals
            go_enter Tryz.func253, Tryz.ntmps253
            go_wp2_with fail
            go_ret
            refine ⟨ret_bool ?_, HB.out⟩
            rw [HZ.out, Bool.eq_iff_iff]
            simp <;> omega
        · by_cases k4 : k = 4
          · have HZ : Hid (x = (decide (m = 2) || decide (m = 3))) := HX.out.trans (N4.out k4)
            subst k4
            clear N2 N4 N5 N6 N0 HX CC k2 hk tk
            have HB := Lib.hid HB'
            clear HB'
            by_cases m2 : (m : Int) = 2
            · obtain rfl : m = 2 := by omega
              clear m2
              go_enter Tryz.func253, Tryz.ntmps253
              go_wp2_with fail
              go_ret
              refine ⟨ret_bool ?_, HB.out⟩
              rw [HZ.out]; rfl
            · have t : ((m : Int) == 2) = false := beq_eq_false_iff_ne.2 m2
              have HM : Hid (¬ m = 2) := fun e => m2 (by omega)
              clear m2
              go_enter Tryz.func253, Tryz.ntmps253
              go_wp2_with fail
              go_ret
              refine ⟨ret_bool ?_, HB.out⟩
              rw [HZ.out, decide_eq_false HM.out, Bool.eq_iff_iff]
              simp <;> omega
          · by_cases k5 : k = 5
            · have HZ : Hid (x = (decide (2 ≤ m) && q)) := HX.out.trans (N5.out k5)
              subst k5
              clear N2 N4 N5 N6 N0 HX k2 k4 hk tk
              have HB := Lib.hid HB'
              clear HB'
              by_cases m2 : (2 : Int) ≤ (m : Int)
              · have HM : Hid (2 ≤ m) := by show 2 ≤ m; omega
                have C := Lib.hid (CC.out _ HB.out)
                clear CC
                have hz := HB.out.size
                go_enter Tryz.func253, Tryz.ntmps253
                go_wp2_with fail
                refine C.out.mono ?_
                rintro e w1 ⟨rfl, hb1⟩
                have HB1 : Hid (Below w0.heap.size w0 w1) := HB.out.trans (hb1.mono hz)
                clear hb1 HB C
                go_wp2_with fail
                go_ret
                refine ⟨ret_bool ?_, HB1.out⟩
                rw [HZ.out, decide_eq_true HM.out]
                simp
              · have HM : Hid (¬ 2 ≤ m) := by show ¬ 2 ≤ m; omega
                clear CC
                go_enter Tryz.func253, Tryz.ntmps253
                go_wp2_with fail
                go_ret
                refine ⟨ret_bool ?_, HB.out⟩
                rw [HZ.out, decide_eq_false HM.out]
                rfl
            · by_cases k6 : k = 6
              · have HZ : Hid (x = (decide (m = 2) && q)) := HX.out.trans (N6.out k6)
                subst k6
                clear N2 N4 N5 N6 N0 HX k2 k4 k5 hk tk
                have HB := Lib.hid HB'
                clear HB'
                by_cases m2 : (m : Int) = 2
                · have HM : Hid (m = 2) := by show m = 2; omega
                  have t : ((m : Int) == 2) = true := by rw [m2]; rfl
                  have C := Lib.hid (CC.out _ HB.out)
                  clear CC m2
                  have hz := HB.out.size
                  go_enter Tryz.func253, Tryz.ntmps253
                  go_wp2_with fail
                  refine C.out.mono ?_
                  rintro e w1 ⟨rfl, hb1⟩
                  have HB1 : Hid (Below w0.heap.size w0 w1) := HB.out.trans (hb1.mono hz)
                  clear hb1 HB C
                  go_wp2_with fail
                  go_ret
                  refine ⟨ret_bool ?_, HB1.out⟩
                  rw [HZ.out, decide_eq_true HM.out]
                  simp
                · have HM : Hid (¬ m = 2) := by show ¬ m = 2; omega
                  have t : ((m : Int) == 2) = false := beq_eq_false_iff_ne.2 m2
                  clear CC m2
                  go_enter Tryz.func253, Tryz.ntmps253
                  go_wp2_with fail
                  go_ret
                  refine ⟨ret_bool ?_, HB.out⟩
                  rw [HZ.out, decide_eq_false HM.out]
                  rfl
              · have HZ : Hid (x = false) := HX.out.trans (N0.out ⟨k2, k4, k5, k6⟩)
                have t2 : (k == 2) = false := beq_eq_false_iff_ne.2 fun e => k2 (.inl e)
                have t3 : (k == 3) = false := beq_eq_false_iff_ne.2 fun e => k2 (.inr e)
                have t4 : (k == 4) = false := beq_eq_false_iff_ne.2 k4
                have t5 : (k == 5) = false := beq_eq_false_iff_ne.2 k5
                have t6 : (k == 6) = false := beq_eq_false_iff_ne.2 k6
                clear N2 N4 N5 N6 N0 HX k2 k4 k5 k6 hk CC
                have HB := Lib.hid HB'
                clear HB'
                go_enter Tryz.func253, Tryz.ntmps253
                go_wp2_with fail
                go_ret
                exact ⟨by rw [HZ.out]; rfl, HB.out⟩
      · have HX : Hid (x = false) := by show x = false; rw [HP.out, decide_eq_false hv]; simp
        obtain ⟨b1, b2, b3⟩ := blank_of (blank_no hv)
        clear HP hn hv b3 N2 N4 N5 N6 N0 CC hk
        go_enter Tryz.func253, Tryz.ntmps253
        go_wp2_with fail
        go_ret
        exact ⟨by rw [HX.out]; rfl, HB.out⟩
    · have HX : Hid (x = false) := by show x = false; rw [HP.out, decide_eq_false ho]; simp
      have tto : (o != 0) = true := by simpa using ho
      clear HP hn ho N2 N4 N5 N6 N0 CC hk
      go_enter Tryz.func253, Tryz.ntmps253
      go_wp2_with fail
      go_ret
      exact ⟨by rw [HX.out]; rfl, HB.out⟩
  · have HX : Hid (x = false) := by show x = false; rw [HP.out, decide_eq_false hn]; simp
    obtain ⟨b1, b2, b3⟩ := blank_of (blank_no hn)
    clear HP hn b3 N2 N4 N5 N6 N0 CC hk
    go_enter Tryz.func253, Tryz.ntmps253
    go_wp2_with fail
    go_ret
    exact ⟨by rw [HX.out]; rfl, HB.out⟩
theorem part_any (d : Dep) (s : Value) (S : Nat → Prop) (w0 : World) (hL : Lay w0 S d s) (hT : Tabs w0) :
    Calls Tryz.prog 253 #[.agg (rowD d s)] w0 fun e w' => e = .returned (.bool (mayPart d)) ∧ Below w0.heap.size w0 w' := by
  by_cases hk : d.kind = 1
  · exact mayBe_leaf d s S w0 hL hT hk
  · exact mayBe_node d s S w0 hL hk
end Go.Proofs.YtljldbdjkjllhaaGreatDoor.Ev
namespace Go.Proofs.YtljldbdjkjllhaaGreatDoor.Ev
set_option linter.unusedSimpArgs false
set_option linter.unusedVariables false
open Go.RowKit

theorem assert_some (n : Int) (w : World) : (Instr.typeAssert (.iface 25 (.int .i64 n)) 20 25 true).run Tryz.prog w = .ok (.tuple #[.int .i64 n, .bool true]) w := by
  simp [Instr.typeAssert, run_underlying Tryz.underlying25, Result.andThen]
theorem assert_none (w : World) : (Instr.typeAssert .nilIface 20 25 true).run Tryz.prog w = .ok (.tuple #[.int .i64 0, .bool false]) w := by
  simp [Instr.typeAssert, run_underlying Tryz.underlying25, Tryz.zeroValue25, Result.andThen]
theorem meths_any : Tryz.prog.methodsAt 20 = #[] := by kernel_rfl
theorem under_any : Tryz.prog.underlying 20 = some (.interface (Tryz.prog.methodsAt 20)) := by rw [meths_any]; exact Tryz.underlying20
theorem neq_some (n : Int) (w : World) : (binOp .neq 20 (.iface 25 (.int .i64 n)) .nilIface).run Tryz.prog w = .ok (.bool true) w := run_neq_held_nil w _ _ _ under_any
theorem neq_none (w : World) : (binOp .neq 20 .nilIface .nilIface).run Tryz.prog w = .ok (.bool false) w := run_neq_nil_nil w _ under_any
theorem caught_slots (p : Addr) : (#[Value.pointer (some p)] ++ Array.replicate (Tryz.f249.ntmps - (#[Value.pointer (some p)] : Array Value).size) undef) = #[Value.pointer (some p), undef, undef, undef, undef, undef, undef, undef, undef, undef, undef, undef, undef, undef, undef, undef, undef, undef] := by
  rw [Tryz.ntmps249]; rfl
set_option maxHeartbeats 400000 in
set_option maxRecDepth 100000 in
theorem catch_pan (p : Addr) (x n : Int) (w : World) (hc : w.cell? p = some (.int .i64 x)) (hz : w.frozen? p = false) :
    CallsD Tryz.prog 249 #[.pointer (some p)] (.panicking [{ v := .iface 25 (.int .i64 n), recovered := false }]) w fun e u' w' =>
      e = .returned (.tuple #[]) ∧ u' = .panicking [{ v := .iface 25 (.int .i64 n), recovered := true }] ∧ w' = w.setCell p (.int .i64 n) := by
  refine callsD_of_wpS Tryz.func249 rfl fun c₀ cs hu => ?_
  rw [caught_slots]
  apply wpS_seq
  apply wpS_region
  simp [wpOpsS, go_sem, recoverD, hu, Exit.thenS]
  refine wpS_of_wp ?_
  clear hu
  have ht := assert_some n
  have hn := neq_some n
  go_wp2_with fail
  exact ⟨rfl, _, rfl, _, results_none rfl _ _ _, rfl, rfl, rfl⟩
set_option maxHeartbeats 400000 in
set_option maxRecDepth 100000 in
theorem catch_none (p : Addr) (x : Int) (w : World) (hc : w.cell? p = some (.int .i64 x)) (hz : w.frozen? p = false) :
    CallsD Tryz.prog 249 #[.pointer (some p)] .returning w fun e u' w' =>
      e = .returned (.tuple #[]) ∧ u' = .returning ∧ w' = w.setCell p (.int .i64 0) := by
  refine callsD_of_wpS Tryz.func249 rfl fun c₀ cs hu => ?_
  rw [caught_slots]
  apply wpS_seq
  apply wpS_region
  simp [wpOpsS, go_sem, recoverD, hu, Exit.thenS]
  refine wpS_of_wp ?_
  have HU := Lib.hid hu
  clear hu
  have ht := assert_none
  have hn := neq_none
  go_wp2_with fail
  exact ⟨rfl, _, (by cases c₀; have := HU.out; simp at this; subst this; rfl), _, results_none rfl _ _ _, rfl, rfl, rfl⟩

/-- What is done either answers, or gives up with an error's number; the blocks of F it may turn. -/
def Done (F : List Nat) (w : World) (Q : World → Prop) (Qp : Int → World → Prop) (e : Ending) (w' : World) : Prop :=
  Turned F w w' ∧ ((e = .returned (.tuple #[]) ∧ Q w') ∨ ∃ n, e = gaveUp n ∧ Qp n w')
set_option maxHeartbeats 400000 in
set_option maxRecDepth 100000 in
theorem caught_any (g : FuncId) (caps : Array Value) (ef : ∀ args w, (callFunc g args).run Tryz.prog w = .ok (.enter g args) w) (F : List Nat) (Q : World → Prop) (Qp : Int → World → Prop) (w0 : World) (hF : ∀ k ∈ F, k < w0.heap.size)
    (hdo : Calls Tryz.prog g caps (w0.alloc (.cells #[.int .i64 0] 25)) (Done F (w0.alloc (.cells #[.int .i64 0] 25)) Q Qp)) :
    Calls Tryz.prog 233 #[.func (.func g) #[] caps] w0 fun e w' => ∃ w1, Turned F (w0.alloc (.cells #[.int .i64 0] 25)) w1 ∧ Turned [w0.heap.size] w1 w' ∧ ((e = .returned (.int .i64 0) ∧ Q w1) ∨ ∃ n, e = .returned (.int .i64 n) ∧ Qp n w1) := by
  have hmf : ∀ (fn : Fn) (first cap : Array Value) (w : World), (Instr.makeFunc fn first cap).run Tryz.prog w = .ok (.func fn first cap) w := fun _ _ _ _ => rfl
  have HD := Lib.hid hdo
  have K0 := Lib.hid (Blk.new w0 25 #[.int .i64 0])
  have HF := Lib.hid hF
  clear hdo hF
  go_enter_defers Tryz.func233, Tryz.ntmps233
  go_wp2_with fail
  refine HD.out.mono ?_
  rintro e w1 ⟨ht, h | h⟩
  · obtain ⟨rfl, hq⟩ := h
    have K1 := Lib.hid (K0.out.turned ht (fun hm => absurd (HF.out _ hm) (Nat.lt_irrefl _)))
    have HT := Lib.hid ht
    have HQ := Lib.hid hq
    clear ht hq HD K0
    have c0 := K1.out.cell 0
    have f0 := K1.out.free 0
    go_wp2_with fail
    have K2 : Blk (w1.setCell ⟨w0.heap.size, 0, none⟩ (.int .i64 0)) w0.heap.size 25 #[.int .i64 0] := K1.out.set_ 0 (.int .i64 0)
    refine leaves_cons (f := 249) (args := #[.pointer (some ⟨w0.heap.size, 0, none⟩)]) (by simp) (by simp [go_sem]) ?_
    refine (catch_none ⟨w0.heap.size, 0, none⟩ 0 _ (K2.cell 0) (K2.free 0)).mono ?_
    rintro e u' w'' ⟨rfl, rfl, rfl⟩
    have K3 : Blk ((w1.setCell ⟨w0.heap.size, 0, none⟩ (.int .i64 0)).setCell ⟨w0.heap.size, 0, none⟩ (.int .i64 0)) w0.heap.size 25 #[.int .i64 0] := K2.set_ 0 (.int .i64 0)
    have d0 : ((w1.setCell ⟨w0.heap.size, 0, none⟩ (.int .i64 0)).setCell ⟨w0.heap.size, 0, none⟩ (.int .i64 0)).cell? ⟨w0.heap.size, 0, none⟩ = some (.int .i64 0) := K3.cell 0
    have e0 := K3.free 0
    have TT : Turned [w0.heap.size] w1 ((w1.setCell ⟨w0.heap.size, 0, none⟩ (.int .i64 0)).setCell ⟨w0.heap.size, 0, none⟩ (.int .i64 0)) := ((Turned.refl _ _).setCell (.inl (by simp)) _).setCell (.inl (by simp)) _
    refine ⟨.int .i64 0, ?_, w1, HT.out, TT, .inl ⟨rfl, HQ.out⟩⟩
    simp only [results, Tryz.results233]
    simp [go_sem, d0, e0]
  · obtain ⟨n, rfl, hq⟩ := h
    have K1 := Lib.hid (K0.out.turned ht (fun hm => absurd (HF.out _ hm) (Nat.lt_irrefl _)))
    have HT := Lib.hid ht
    have HQ := Lib.hid hq
    clear ht hq HD K0
    have c0 := K1.out.cell 0
    have f0 := K1.out.free 0
    unfold gaveUp
    go_wp2_with fail
    refine leaves_cons (f := 249) (args := #[.pointer (some ⟨w0.heap.size, 0, none⟩)]) (by simp) (by simp [go_sem]) ?_
    refine (catch_pan ⟨w0.heap.size, 0, none⟩ 0 n _ c0 f0).mono ?_
    rintro e u' w'' ⟨rfl, rfl, rfl⟩
    have K3 : Blk (w1.setCell ⟨w0.heap.size, 0, none⟩ (.int .i64 n)) w0.heap.size 25 #[.int .i64 n] := K1.out.set_ 0 (.int .i64 n)
    have d0 : (w1.setCell ⟨w0.heap.size, 0, none⟩ (.int .i64 n)).cell? ⟨w0.heap.size, 0, none⟩ = some (.int .i64 n) := K3.cell 0
    have e0 := K3.free 0
    have TT : Turned [w0.heap.size] w1 (w1.setCell ⟨w0.heap.size, 0, none⟩ (.int .i64 n)) := (Turned.refl _ _).setCell (.inl (by simp)) _
    refine ⟨.int .i64 n, ?_, w1, HT.out, TT, .inr ⟨n, rfl, HQ.out⟩⟩
    simp only [results, Tryz.results233]
    simp [go_sem, d0, e0]
end Go.Proofs.YtljldbdjkjllhaaGreatDoor.Ev

/- A map from pointers to numbers, whose pointers lead to lists of dependencies that nobody has marked. All parts of a dependency. -/
namespace Go.Proofs.YtljldbdjkjllhaaGreatDoor.Ev
set_option linter.unusedSimpArgs false
set_option linter.unusedVariables false
open Go.RowKit

/-- The map in block b: which pointer has which number. -/
def PtrEs (w : World) (b : Nat) (m : List (Addr × Int)) : Prop :=
  ∃ es clock, w.heap[b]? = some (.map es clock) ∧ es.toList.map (fun x => (x.key, x.val)) = m.map fun p => (Value.pointer (some p.1), Value.int .i64 p.2)
def getM : List (Addr × Int) → Addr → Int
  | [], _ => 0
  | q :: r, p => if p = q.1 then q.2 else getM r p
def putM : List (Addr × Int) → Addr → Int → List (Addr × Int)
  | [], p, n => [(p, n)]
  | q :: r, p, n => if p = q.1 then (p, n) :: r else q :: putM r p n
theorem getM_put (m : List (Addr × Int)) (p : Addr) (n : Int) (q : Addr) : getM (putM m p n) q = if q = p then n else getM m q := by
  induction m with
  | nil => simp [putM, getM]
  | cons x r ih =>
    unfold putM
    split
    · rename_i h
      simp only [getM]
      split
      · rfl
      · rename_i hq
        rw [if_neg (by rw [← h]; exact hq)]
    · rename_i h
      simp only [getM, ih]
      by_cases hq : q = x.1
      · rw [if_pos hq, if_pos hq, if_neg (fun e : q = p => h (e.symm.trans hq))]
      · rw [if_neg hq, if_neg hq]
theorem putM_mem {m : List (Addr × Int)} {p : Addr} {n : Int} {x : Addr × Int} (h : x ∈ putM m p n) : x ∈ m ∨ x = (p, n) := by
  induction m with
  | nil => simp [putM] at h; exact .inr h
  | cons y r ih =>
    unfold putM at h
    split at h
    · rcases List.mem_cons.1 h with h | h
      · exact .inr h
      · exact .inl (by simp [h])
    · rcases List.mem_cons.1 h with h | h
      · exact .inl (by simp [h])
      · rcases ih h with h | h
        · exact .inl (by simp [h])
        · exact .inr h
/-- A block of cells none of which is marked. -/
def Plain (w : World) (b : Nat) : Prop := ∃ cs t, w.heap[b]? = some (.cells cs t (0, 0))
theorem info_dep : ∃ j, Tryz.prog.info? 44 = some j ∧ j.size ≠ 0 := by
  have h : (Tryz.prog.info? 44).any (fun j => j.size != 0) = true := by kernel_rfl
  cases hj : Tryz.prog.info? 44 with
  | none => rw [hj] at h; cases h
  | some j => rw [hj] at h; exact ⟨j, rfl, by simpa using h⟩
theorem equal_ptr (w : World) (a b : Addr) (ha : Plain w a.block) (hb : Plain w b.block) : (Op.equal 249 (.pointer (some a)) (.pointer (some b))).run Tryz.prog w = .ok (decide (a = b)) w := by
  obtain ⟨j, hj, hz⟩ := info_dep
  obtain ⟨ca, ta, ha⟩ := ha
  obtain ⟨cb, tb, hb⟩ := hb
  have hp := Tryz.underlying249
  by_cases h : a = b
  · subst h
    have h : ∀ d : Nat, (Op.equalIn (d + 1) 249 (.pointer (some a)) (.pointer (some a))).run Tryz.prog w = .ok true w := fun d => by
      simp [Op.equalIn, run_underlying hp, sizeOf, typeInfo, hj, run_sameAddr_same]
    simp [Op.equal, Op.maxDepth, h 9999]
  · have h' : ∀ d : Nat, (Op.equalIn (d + 1) 249 (.pointer (some a)) (.pointer (some b))).run Tryz.prog w = .ok false w := fun d => by
      simp [Op.equalIn, run_underlying hp, sizeOf, typeInfo, hj, hz, run_sameAddr_other w h ha hb]
    simp [Op.equal, Op.maxDepth, h' 9999, h]
theorem keys_of {es : List MapEntry} {m : List (Addr × Int)} (h : es.map (fun x => (x.key, x.val)) = m.map fun p => (Value.pointer (some p.1), Value.int .i64 p.2)) {x : MapEntry} {r : List MapEntry} (he : es = x :: r) :
    ∃ q t, m = q :: t ∧ x.key = .pointer (some q.1) ∧ x.val = .int .i64 q.2 ∧ r.map (fun x => (x.key, x.val)) = t.map fun p => (Value.pointer (some p.1), Value.int .i64 p.2) := by
  subst he
  cases m with
  | nil => simp at h
  | cons q t =>
    simp only [List.map_cons, List.cons.injEq, Prod.mk.injEq] at h
    exact ⟨q, t, rfl, h.1.1, h.1.2, h.2⟩
/-- Looked for, one by one. -/
theorem find_ptr (w : World) (p : Addr) (hp : Plain w p.block) : ∀ (es : List MapEntry) (m : List (Addr × Int)) (i : Nat), es.map (fun x => (x.key, x.val)) = m.map (fun p => (Value.pointer (some p.1), Value.int .i64 p.2)) → (∀ q ∈ m, Plain w q.1.block) →
    ((Instr.findAsking 249 (.pointer (some p)) es i).run Tryz.prog w = .ok none w ∧ getM m p = 0 ∧ putM m p = fun n => m ++ [(p, n)]) ∨
    ∃ j x, (Instr.findAsking 249 (.pointer (some p)) es i).run Tryz.prog w = .ok (some (i + j, .int .i64 (getM m p))) w ∧ es[j]? = some x ∧ x.key = .pointer (some p) ∧
      ∀ n : Int, (es.modify j fun e => { e with key := .pointer (some p), val := .int .i64 n }).map (fun x => (x.key, x.val)) = (putM m p n).map fun p => (Value.pointer (some p.1), Value.int .i64 p.2)
  | [], m, i, h, hm => by
    cases m with
    | nil => exact .inl ⟨by simp [Instr.findAsking], rfl, rfl⟩
    | cons q t => simp at h
  | x :: r, m, i, h, hm => by
    obtain ⟨q, t, rfl, hk, hv, hr⟩ := keys_of h rfl
    have he := equal_ptr w p q.1 hp (hm q (by simp))
    by_cases hpq : p = q.1
    · refine .inr ⟨0, x, ?_, rfl, by rw [hk, hpq], fun n => ?_⟩
      · have he2 := equal_ptr w q.1 q.1 (hm q (by simp)) (hm q (by simp))
        unfold Instr.findAsking
        simp [hk, he2, hpq, Result.andThen, hv, getM]
      · simp [putM, hpq, hr]
    · rcases find_ptr w p hp r t (i + 1) hr (fun y hy => hm y (by simp [hy])) with ⟨h1, h2, h3⟩ | ⟨j, y, h1, h2, h3, h4⟩
      · refine .inl ⟨?_, by simp only [getM, if_neg hpq, h2], ?_⟩
        · unfold Instr.findAsking
          simp [hk, he, hpq, Result.andThen, h1]
        · funext n
          simp only [putM, if_neg hpq, h3, List.cons_append]
      · refine .inr ⟨j + 1, y, ?_, by simpa using h2, h3, fun n => ?_⟩
        · unfold Instr.findAsking
          simp [hk, he, hpq, Result.andThen, h1, getM]
          omega
        · simp only [List.modify_succ_cons, List.map_cons, putM, if_neg hpq, h4 n, hk, hv]
theorem findKey_ptr (w : World) (p : Addr) (es : List MapEntry) (r : Option (Nat × Value)) (h : (Instr.findAsking 249 (.pointer (some p)) es 0).run Tryz.prog w = .ok r w) : (Instr.findKey 249 (.pointer (some p)) es).run Tryz.prog w = .ok r w := by
  cases es with
  | nil =>
    simp [Instr.findAsking] at h
    subst h
    simp [Instr.findKey, run_underlying Tryz.underlying249, Instr.findNow, Result.andThen]
  | cons x t => simp [Instr.findKey, run_underlying Tryz.underlying249, Instr.findNow, Instr.sameNow, Result.andThen, h]
theorem check_ptr (w : World) (em : Bool) (p : Addr) : (Instr.checkKey em 10000 249 (.pointer (some p))).run Tryz.prog w = .ok () w := by
  unfold Instr.checkKey
  simp [run_underlying Tryz.underlying249, Result.andThen]
theorem look_ptr (w : World) (b : Nat) (m : List (Addr × Int)) (hM : PtrEs w b m) (hm : ∀ q ∈ m, Plain w q.1.block) (p : Addr) (hp : Plain w p.block) :
    (Instr.lookup 248 (.map (some b)) (.pointer (some p)) false).run Tryz.prog w = .ok (.int .i64 (getM m p)) w := by
  obtain ⟨es, clock, hb, he⟩ := hM
  rcases find_ptr w p hp es.toList m 0 he hm with ⟨h1, h2, _⟩ | ⟨j, x, h1, _⟩
  · have h3 := findKey_ptr w p _ _ h1
    rw [h2]
    simp [Instr.lookup, run_underlying Tryz.underlying248, Go.MapKept.run_getObj_map hb, check_ptr, h3, Tryz.zeroValue3, Result.andThen]
  · have h3 := findKey_ptr w p _ _ h1
    simp [Instr.lookup, run_underlying Tryz.underlying248, Go.MapKept.run_getObj_map hb, check_ptr, h3, Result.andThen]
theorem put_ptr (w : World) (b : Nat) (m : List (Addr × Int)) (hM : PtrEs w b m) (hm : ∀ q ∈ m, Plain w q.1.block) (p : Addr) (hp : Plain w p.block) (n : Int) :
    ∃ w', (Instr.mapUpdate 248 (.map (some b)) (.pointer (some p)) (.int .i64 n)).run Tryz.prog w = .ok () w' ∧ PtrEs w' b (putM m p n) ∧ Turned [b] w w' := by
  obtain ⟨es, clock, hb, he⟩ := hM
  have hlt : b < w.heap.size := (Array.getElem?_eq_some_iff.1 hb).1
  have T : ∀ o, Turned [b] w { w with heap := w.heap.setIfInBounds b o } := fun o => ⟨rfl, rfl, rfl, by simp, fun k hk hn => by
    have : k ≠ b := by simpa using hn
    simp [Ne.symm this]⟩
  rcases find_ptr w p hp es.toList m 0 he hm with ⟨h1, _, h4⟩ | ⟨j, x, h1, h2, h5, h4⟩
  · have h3 := findKey_ptr w p _ _ h1
    refine ⟨_, by simp [Instr.mapUpdate, run_underlying Tryz.underlying248, Go.MapKept.run_getObj_map hb, check_ptr, h3, Go.MapKept.run_setObj_map _ hb, Result.andThen]; rfl, ⟨_, _, by simp [hlt]; exact ⟨rfl, rfl⟩, ?_⟩, T _⟩
    rw [h4]
    simp [he]
  · have h3 := findKey_ptr w p _ _ h1
    have hx : es[j]? = some x := by simpa using h2
    refine ⟨_, by simp [Instr.mapUpdate, run_underlying Tryz.underlying248, Go.MapKept.run_getObj_map hb, check_ptr, h3, hx, h5, Instr.keyThatStays, Instr.sameBits, Go.MapKept.run_setObj_map _ hb, Result.andThen]; rfl, ⟨_, _, by simp [hlt]; exact ⟨rfl, rfl⟩, ?_⟩, T _⟩
    rw [← h4 n]
    simp
end Go.Proofs.YtljldbdjkjllhaaGreatDoor.Ev
namespace Go.Proofs.YtljldbdjkjllhaaGreatDoor.Ev
set_option linter.unusedSimpArgs false
set_option linter.unusedVariables false
open Go.RowKit

mutual
def partsOf : Dep → List Dep
  | .mk k n o e ds => .mk k n o e ds :: partsA ds
def partsA : List Dep → List Dep
  | [] => []
  | a :: r => partsOf a ++ partsA r
end
theorem mem_partsA {ds : List Dep} {x : Dep} : x ∈ partsA ds ↔ ∃ a, a ∈ ds ∧ x ∈ partsOf a := by
  induction ds with
  | nil => simp [partsA]
  | cons b r ih => simp [partsA, ih]
theorem mem_partsOf {d x : Dep} : x ∈ partsOf d ↔ x = d ∨ ∃ a, a ∈ d.args ∧ x ∈ partsOf a := by
  obtain ⟨k, n, o, e, ds⟩ := d
  simp only [partsOf, Dep.args, List.mem_cons, mem_partsA]
theorem self_partsOf (d : Dep) : d ∈ partsOf d := mem_partsOf.2 (.inl rfl)
theorem form_parts (d : Dep) : form d = true ↔ ∀ x ∈ partsOf d, mayPart x = true := by
  induction d using Dep.ind with
  | h k n o e ds ih =>
    simp only [form, Bool.and_eq_true]
    constructor
    · rintro ⟨h1, h2⟩ x hx
      rcases mem_partsOf.1 hx with rfl | ⟨a, ha, hxa⟩
      · exact h1
      · exact (ih a ha).1 (forms_mem h2 a ha) x hxa
    · intro h
      refine ⟨h _ (self_partsOf _), forms_of fun a ha => (ih a ha).2 fun x hx => h x (mem_partsOf.2 (.inr ⟨a, ha, hx⟩))⟩
/-- What lies at a place is one dependency. -/
theorem cells_det {w : World} {b o : Nat} {a a' : Dep} {t t' : Value} (h : CellsD w b o a t) (h' : CellsD w b o a' t') : a.kind = a'.kind ∧ a.name = a'.name ∧ a.op = a'.op ∧ a.evr = a'.evr ∧ t = t' := by
  obtain ⟨h0, h1, h2, h3, h4⟩ := h
  obtain ⟨g0, g1, g2, g3, g4⟩ := h'
  rw [h0] at g0; rw [h1] at g1; rw [h2] at g2; rw [h3] at g3; rw [h4] at g4
  injection g0 with g0; injection g0 with _ g0
  injection g1 with g1; injection g1 with g1
  injection g2 with g2; injection g2 with _ g2
  injection g3 with g3; injection g3 with g3
  injection g4 with g4
  exact ⟨g0, g1, g2, g3, g4⟩
theorem lay_det {w : World} {S S' : Nat → Prop} (a : Dep) : ∀ (a' : Dep) (t : Value), a.kind = a'.kind → a.name = a'.name → a.op = a'.op → a.evr = a'.evr → Lay w S a t → Lay w S' a' t → a = a' := by
  induction a using Dep.ind with
  | h k n o e ds ih =>
    intro a' t h1 h2 h3 h4 hL hL'
    obtain ⟨k', n', o', e', ds'⟩ := a'
    simp only [Dep.kind, Dep.name, Dep.op, Dep.evr] at h1 h2 h3 h4
    subst h1; subst h2; subst h3; subst h4
    obtain ⟨A, c, rfl, hl, hc, hA⟩ := hL.args_
    obtain ⟨A', c', he, hl', hc', hA'⟩ := hL'.args_
    simp only [Dep.args] at he hA hA'
    injection he with e1 e2 e3
    subst e1
    have : ds = ds' := by
      apply List.ext_getElem?
      intro i
      rcases Nat.lt_or_ge i ds.length with hi | hi
      · obtain ⟨b, p, t1, q1, _, q3, q4⟩ := hA i ds[i] (List.getElem?_eq_getElem hi)
        obtain ⟨b', p', t2, r1, _, r3, r4⟩ := hA' i (ds'[i]'(by omega)) (List.getElem?_eq_getElem (by omega))
        rw [q1] at r1
        injection r1 with r1; injection r1 with r1 r2
        subst r1; subst r2
        obtain ⟨x1, x2, x3, x4, x5⟩ := cells_det q3 r3
        subst x5
        rw [List.getElem?_eq_getElem hi, List.getElem?_eq_getElem (by omega), ih ds[i] (List.getElem_mem hi) _ t1 x1 x2 x3 x4 q4 r4]
      · rw [List.getElem?_eq_none hi, List.getElem?_eq_none (by omega)]
    rw [this]
theorem at_det {w : World} {S S' : Nat → Prop} {b o : Nat} {a a' : Dep} {t t' : Value} (h : CellsD w b o a t) (hL : Lay w S a t) (h' : CellsD w b o a' t') (hL' : Lay w S' a' t') : a = a' ∧ t = t' := by
  obtain ⟨x1, x2, x3, x4, x5⟩ := cells_det h h'
  subst x5
  exact ⟨lay_det a a' t x1 x2 x3 x4 hL hL', rfl⟩
/-- A row of an object's own without its last one. -/
theorem own_pop {w : World} {base n c size : Nat} {e : TypeId} {A : Option Addr} {xs ys : List Value} (h : w.ownsRow base e size (.slice A (n + 1) c) (n + 1) (xs ++ ys)) (hy : ys.length = size) : w.ownsRow base e size (.slice A n c) n xs := by
  have hl : xs.length = n * size := by have := h.1; rw [List.length_append, hy, Nat.add_mul] at this; omega
  refine ⟨hl, ?_⟩
  rcases h.2 with ⟨hv, h0⟩ | ⟨g, cap, cur, hv, hb, hg, h1, h2, h3, h4⟩
  · cases hv
  · injection hv with e1 e2 e3
    subst e1; subst e3
    refine .inr ⟨g, c, cur, rfl, hb, hg, by omega, h2, h3, ?_⟩
    have h5 := congrArg (List.take (n * size)) h4
    rw [List.take_take, Nat.min_eq_left (by rw [Nat.add_mul]; omega), List.take_left' hl] at h5
    exact h5
end Go.Proofs.YtljldbdjkjllhaaGreatDoor.Ev
