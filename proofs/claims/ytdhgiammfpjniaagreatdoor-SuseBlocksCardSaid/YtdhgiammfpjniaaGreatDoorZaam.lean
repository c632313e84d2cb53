/- Whether a part may be: mayBe. What gives up is caught: caught and its closure. -/
import Derived.Test.YtdhgiammfpjniaaGreatDoorZaal
import Derived.Defers
import Derived.Recover
import Derived.Laws.Pointers
/- Whether a part may be: mayBe. What gives up is caught: caught and its closure. -/
namespace Go.Proofs.YtdhgiammfpjniaaGreatDoor.Ev
set_option linter.unusedSimpArgs false
set_option linter.unusedVariables false
open Go.RowKit

theorem part_leaf {d : Dep} (h : d.kind = 1) : mayPart d = (nameB d.name.data.toList && mayCmp d.op d.evr.data.toList && decide (d.args.length = 0)) := by
  obtain ⟨k, n, o, e, ds⟩ := d
  unfold mayPart
  rw [if_pos h]
theorem part_node {d : Dep} (h : d.kind ≠ 1) : mayPart d = (decide (d.name.data.toList = []) && decide (d.op = 0) && decide (d.evr.data.toList = []) && numArgs d.kind d.args) := by
  obtain ⟨k, n, o, e, ds⟩ := d
  unfold mayPart
  rw [if_neg h]
theorem blank_no {s : ByteArray} (h : s.data.toList ≠ []) : s.size ≠ 0 := fun e => h (list_nil e)

set_option maxHeartbeats 4000000 in
set_option maxRecDepth 100000 in
theorem mayBe_leaf (d : Dep) (s : Value) (S : Nat → Prop) (w0 : World) (hL : Lay w0 S d s) (hT : Tabs w0) (hk : d.kind = 1) :
    Calls Tryz.prog 221 #[.agg (rowD d s)] w0 fun e w' => e = .returned (.bool (mayPart d)) ∧ Below w0.heap.size w0 w' := by
  obtain ⟨A, c, rfl, hl, hc⟩ := hL.form_
  have hp := part_leaf hk
  have CN := Lib.hid (fun w h => name_any d.name w h)
  have CM := Lib.hid (fun w => mayCompare_any d.op d.evr w)
  unfold rowD
  rw [hk, hp]
  clear hp hk hL
  generalize nameB d.name.data.toList = x at *
  generalize mayCmp d.op d.evr.data.toList = y at *
  generalize d.name = n at *
  generalize d.op = o at *
  generalize d.evr = v at *
  generalize d.args.length = m at *
  have HT := Lib.hid (hT.below ((Below.refl _ _).alloc (Nat.le_refl _) (.cells #[.int .i64 1, .string n, .int .i64 o, .string v, .slice A m c] 39)) hT.two)
  have HB : Hid (Below w0.heap.size w0 (w0.alloc (.cells #[.int .i64 1, .string n, .int .i64 o, .string v, .slice A m c] 39))) := (Below.refl _ _).alloc (Nat.le_refl _) _
  have K := Lib.hid (Blk.new w0 39 #[.int .i64 1, .string n, .int .i64 o, .string v, .slice A m c])
  clear hT
  go_enter Tryz.func221, Tryz.ntmps221
  go_wp2_with fail
  refine (CN.out _ HT.out).mono ?_
  rintro e w1 ⟨rfl, hb1⟩
  have HB1 : Hid (Below w0.heap.size w0 w1) := HB.out.trans (hb1.mono (by simp))
  have hz1 := HB1.out.size
  have K1 := Lib.hid (K.out.below hb1 (by simp))
  have c0 := K1.out.cell 0
  have c1 := K1.out.cell 1
  have c2 := K1.out.cell 2
  have c3 := K1.out.cell 3
  have c4 := K1.out.cell 4
  clear hb1 K HB HT CN
  cases x with
  | false =>
    go_wp2_with fail
    go_ret
    exact ⟨rfl, HB1.out⟩
  | true =>
    go_wp2_with fail
    refine (CM.out _).mono ?_
    rintro e w2 ⟨rfl, hb2⟩
    have HB2 : Hid (Below w0.heap.size w0 w2) := HB1.out.trans (hb2.mono hz1)
    clear hb2 HB1 K1 c0 c1 c2 c3 c4 CM
    cases y with
    | false =>
      go_wp2_with fail
      go_ret
      exact ⟨rfl, HB2.out⟩
    | true =>
      go_wp2_with fail
      go_ret
      refine ⟨ret_bool ?_, HB2.out⟩
      rw [Bool.eq_iff_iff]
      simp <;> omega

set_option maxHeartbeats 8000000 in
set_option maxRecDepth 100000 in
theorem mayBe_node (d : Dep) (s : Value) (S : Nat → Prop) (w0 : World) (hL : Lay w0 S d s) (hk : d.kind ≠ 1) :
    Calls Tryz.prog 221 #[.agg (rowD d s)] w0 fun e w' => e = .returned (.bool (mayPart d)) ∧ Below w0.heap.size w0 w' := by
  obtain ⟨A, c, rfl, hl, hc, hA⟩ := hL.args_
  have HP := Lib.hid (part_node hk)
  have HB : Hid (Below w0.heap.size w0 (w0.alloc (.cells (rowD d (.slice A d.args.length c)) 39))) := (Below.refl _ _).alloc (Nat.le_refl _) _
  have CC := Lib.hid (fun w (hw : Below w0.heap.size w0 w) => containsFunc_any d.args A c S w (hA.stay (fun _ h => h) (StayS.below' hw)) hl hc)
  have N2 := Lib.hid (fun (h : d.kind = 2 ∨ d.kind = 3) => show numArgs d.kind d.args = decide (2 ≤ d.args.length) by unfold numArgs; rw [if_pos h])
  have N4 := Lib.hid (fun (h : d.kind = 4) => show numArgs d.kind d.args = (decide (d.args.length = 2) || decide (d.args.length = 3)) by rw [h]; rfl)
  have N5 := Lib.hid (fun (h : d.kind = 5) => show numArgs d.kind d.args = (decide (2 ≤ d.args.length) && d.args.all single) by rw [h]; rfl)
  have N6 := Lib.hid (fun (h : d.kind = 6) => show numArgs d.kind d.args = (decide (d.args.length = 2) && d.args.all single) by rw [h]; rfl)
  have N0 := Lib.hid (fun (h : ¬ (d.kind = 2 ∨ d.kind = 3) ∧ d.kind ≠ 4 ∧ d.kind ≠ 5 ∧ d.kind ≠ 6) => show numArgs d.kind d.args = false by unfold numArgs; rw [if_neg h.1, if_neg h.2.1, if_neg h.2.2.1, if_neg h.2.2.2])
  unfold rowD at HB ⊢
  generalize mayPart d = x at *
  generalize d.name = n at *
  generalize d.op = o at *
  generalize d.evr = v at *
  generalize numArgs d.kind d.args = z at *
  generalize d.args.all single = q at *
  generalize d.args.length = m at *
  generalize d.kind = k at *
  have tk : (k == 1) = false := beq_eq_false_iff_ne.2 hk
  clear hA hL
  unfold maxLen at hc
  by_cases hn : n.data.toList = []
  · obtain rfl := str_is hn
    by_cases ho : o = 0
    · subst ho
      by_cases hv : v.data.toList = []
      · obtain rfl := str_is hv
        have HX : Hid (x = z) := by show x = z; rw [HP.out]; simp
        clear HP hn hv
        have HB' := HB.out
        clear HB
        by_cases k2 : k = 2 ∨ k = 3
        · have HZ : Hid (x = decide (2 ≤ m)) := HX.out.trans (N2.out k2)
          clear N2 N4 N5 N6 N0 HX CC
          have HB := Lib.hid HB'
          clear HB'
          rcases k2 with rfl | rfl
          all_goals
            go_enter Tryz.func221, Tryz.ntmps221
            go_wp2_with fail
            go_ret
            refine ⟨ret_bool ?_, HB.out⟩
            rw [HZ.out, Bool.eq_iff_iff]
            simp <;> omega
        · by_cases k4 : k = 4
          · have HZ : Hid (x = (decide (m = 2) || decide (m = 3))) := HX.out.trans (N4.out k4)
            subst k4
            clear N2 N4 N5 N6 N0 HX CC k2 hk tk
            have HB := Lib.hid HB'
            clear HB'
            by_cases m2 : (m : Int) = 2
            · obtain rfl : m = 2 := by omega
              clear m2
              go_enter Tryz.func221, Tryz.ntmps221
              go_wp2_with fail
              go_ret
              refine ⟨ret_bool ?_, HB.out⟩
              rw [HZ.out]; rfl
            · have t : ((m : Int) == 2) = false := beq_eq_false_iff_ne.2 m2
              have HM : Hid (¬ m = 2) := fun e => m2 (by omega)
              clear m2
              go_enter Tryz.func221, Tryz.ntmps221
              go_wp2_with fail
              go_ret
              refine ⟨ret_bool ?_, HB.out⟩
              rw [HZ.out, decide_eq_false HM.out, Bool.eq_iff_iff]
              simp <;> omega
          · by_cases k5 : k = 5
            · have HZ : Hid (x = (decide (2 ≤ m) && q)) := HX.out.trans (N5.out k5)
              subst k5
              clear N2 N4 N5 N6 N0 HX k2 k4 hk tk
              have HB := Lib.hid HB'
              clear HB'
              by_cases m2 : (2 : Int) ≤ (m : Int)
              · have HM : Hid (2 ≤ m) := by show 2 ≤ m; omega
                have C := Lib.hid (CC.out _ HB.out)
                clear CC
                have hz := HB.out.size
                go_enter Tryz.func221, Tryz.ntmps221
                go_wp2_with fail
                refine C.out.mono ?_
                rintro e w1 ⟨rfl, hb1⟩
                have HB1 : Hid (Below w0.heap.size w0 w1) := HB.out.trans (hb1.mono hz)
                clear hb1 HB C
                go_wp2_with fail
                go_ret
                refine ⟨ret_bool ?_, HB1.out⟩
                rw [HZ.out, decide_eq_true HM.out]
                simp
              · have HM : Hid (¬ 2 ≤ m) := by show ¬ 2 ≤ m; omega
                clear CC
                go_enter Tryz.func221, Tryz.ntmps221
                go_wp2_with fail
                go_ret
                refine ⟨ret_bool ?_, HB.out⟩
                rw [HZ.out, decide_eq_false HM.out]
                rfl
            · by_cases k6 : k = 6
              · have HZ : Hid (x = (decide (m = 2) && q)) := HX.out.trans (N6.out k6)
                subst k6
                clear N2 N4 N5 N6 N0 HX k2 k4 k5 hk tk
                have HB := Lib.hid HB'
                clear HB'
                by_cases m2 : (m : Int) = 2
                · have HM : Hid (m = 2) := by show m = 2; omega
                  have t : ((m : Int) == 2) = true := by rw [m2]; rfl
                  have C := Lib.hid (CC.out _ HB.out)
                  clear CC m2
                  have hz := HB.out.size
                  go_enter Tryz.func221, Tryz.ntmps221
                  go_wp2_with fail
                  refine C.out.mono ?_
                  rintro e w1 ⟨rfl, hb1⟩
                  have HB1 : Hid (Below w0.heap.size w0 w1) := HB.out.trans (hb1.mono hz)
                  clear hb1 HB C
                  go_wp2_with fail
                  go_ret
                  refine ⟨ret_bool ?_, HB1.out⟩
                  rw [HZ.out, decide_eq_true HM.out]
                  simp
                · have HM : Hid (¬ m = 2) := by show ¬ m = 2; omega
                  have t : ((m : Int) == 2) = false := beq_eq_false_iff_ne.2 m2
                  clear CC m2
                  go_enter Tryz.func221, Tryz.ntmps221
                  go_wp2_with fail
                  go_ret
                  refine ⟨ret_bool ?_, HB.out⟩
                  rw [HZ.out, decide_eq_false HM.out]
                  rfl
              · have HZ : Hid (x = false) := HX.out.trans (N0.out ⟨k2, k4, k5, k6⟩)
                have t2 : (k == 2) = false := beq_eq_false_iff_ne.2 fun e => k2 (.inl e)
                have t3 : (k == 3) = false := beq_eq_false_iff_ne.2 fun e => k2 (.inr e)
                have t4 : (k == 4) = false := beq_eq_false_iff_ne.2 k4
                have t5 : (k == 5) = false := beq_eq_false_iff_ne.2 k5
                have t6 : (k == 6) = false := beq_eq_false_iff_ne.2 k6
                clear N2 N4 N5 N6 N0 HX k2 k4 k5 k6 hk CC
                have HB := Lib.hid HB'
                clear HB'
                go_enter Tryz.func221, Tryz.ntmps221
                go_wp2_with fail
                go_ret
                exact ⟨by rw [HZ.out]; rfl, HB.out⟩
      · have HX : Hid (x = false) := by show x = false; rw [HP.out, decide_eq_false hv]; simp
        obtain ⟨b1, b2, b3⟩ := blank_of (blank_no hv)
        clear HP hn hv b3 N2 N4 N5 N6 N0 CC hk
        go_enter Tryz.func221, Tryz.ntmps221
        go_wp2_with fail
        go_ret
        exact ⟨by rw [HX.out]; rfl, HB.out⟩
    · have HX : Hid (x = false) := by show x = false; rw [HP.out, decide_eq_false ho]; simp
      have tto : (o != 0) = true := by simpa using ho
      clear HP hn ho N2 N4 N5 N6 N0 CC hk
      go_enter Tryz.func221, Tryz.ntmps221
      go_wp2_with fail
      go_ret
      exact ⟨by rw [HX.out]; rfl, HB.out⟩
  · have HX : Hid (x = false) := by show x = false; rw [HP.out, decide_eq_false hn]; simp
    obtain ⟨b1, b2, b3⟩ := blank_of (blank_no hn)
    clear HP hn b3 N2 N4 N5 N6 N0 CC hk
    go_enter Tryz.func221, Tryz.ntmps221
    go_wp2_with fail
    go_ret
    exact ⟨by rw [HX.out]; rfl, HB.out⟩
theorem part_any (d : Dep) (s : Value) (S : Nat → Prop) (w0 : World) (hL : Lay w0 S d s) (hT : Tabs w0) :
    Calls Tryz.prog 221 #[.agg (rowD d s)] w0 fun e w' => e = .returned (.bool (mayPart d)) ∧ Below w0.heap.size w0 w' := by
  by_cases hk : d.kind = 1
  · exact mayBe_leaf d s S w0 hL hT hk
  · exact mayBe_node d s S w0 hL hk
end Go.Proofs.YtdhgiammfpjniaaGreatDoor.Ev
namespace Go.Proofs.YtdhgiammfpjniaaGreatDoor.Ev
set_option linter.unusedSimpArgs false
set_option linter.unusedVariables false
open Go.RowKit

theorem assert_some (n : Int) (w : World) : (Instr.typeAssert (.iface 24 (.int .i64 n)) 20 24 true).run Tryz.prog w = .ok (.tuple #[.int .i64 n, .bool true]) w := by
  simp [Instr.typeAssert, run_underlying Tryz.underlying24, Result.andThen]
theorem assert_none (w : World) : (Instr.typeAssert .nilIface 20 24 true).run Tryz.prog w = .ok (.tuple #[.int .i64 0, .bool false]) w := by
  simp [Instr.typeAssert, run_underlying Tryz.underlying24, Tryz.zeroValue24, Result.andThen]
theorem meths_any : Tryz.prog.methodsAt 20 = #[] := by kernel_rfl
theorem under_any : Tryz.prog.underlying 20 = some (.interface (Tryz.prog.methodsAt 20)) := by rw [meths_any]; exact Tryz.underlying20
theorem neq_some (n : Int) (w : World) : (binOp .neq 20 (.iface 24 (.int .i64 n)) .nilIface).run Tryz.prog w = .ok (.bool true) w := run_neq_held_nil w _ _ _ under_any
theorem neq_none (w : World) : (binOp .neq 20 .nilIface .nilIface).run Tryz.prog w = .ok (.bool false) w := run_neq_nil_nil w _ under_any
theorem caught_slots (p : Addr) : (#[Value.pointer (some p)] ++ Array.replicate (Tryz.f215.ntmps - (#[Value.pointer (some p)] : Array Value).size) undef) = #[Value.pointer (some p), undef, undef, undef, undef, undef, undef, undef, undef, undef, undef, undef, undef, undef, undef, undef, undef, undef] := by
  rw [Tryz.ntmps215]; rfl
set_option maxHeartbeats 400000 in
set_option maxRecDepth 100000 in
theorem catch_pan (p : Addr) (x n : Int) (w : World) (hc : w.cell? p = some (.int .i64 x)) (hz : w.frozen? p = false) :
    CallsD Tryz.prog 215 #[.pointer (some p)] (.panicking [{ v := .iface 24 (.int .i64 n), recovered := false }]) w fun e u' w' =>
      e = .returned (.tuple #[]) ∧ u' = .panicking [{ v := .iface 24 (.int .i64 n), recovered := true }] ∧ w' = w.setCell p (.int .i64 n) := by
  refine callsD_of_wpS Tryz.func215 rfl fun c₀ cs hu => ?_
  rw [caught_slots]
  apply wpS_seq
  apply wpS_region
  simp [wpOpsS, go_sem, recoverD, hu, Exit.thenS]
  refine wpS_of_wp ?_
  clear hu
  have ht := assert_some n
  have hn := neq_some n
  go_wp2_with fail
  exact ⟨rfl, _, rfl, _, results_none rfl _ _ _, rfl, rfl, rfl⟩
set_option maxHeartbeats 400000 in
set_option maxRecDepth 100000 in
theorem catch_none (p : Addr) (x : Int) (w : World) (hc : w.cell? p = some (.int .i64 x)) (hz : w.frozen? p = false) :
    CallsD Tryz.prog 215 #[.pointer (some p)] .returning w fun e u' w' =>
      e = .returned (.tuple #[]) ∧ u' = .returning ∧ w' = w.setCell p (.int .i64 0) := by
  refine callsD_of_wpS Tryz.func215 rfl fun c₀ cs hu => ?_
  rw [caught_slots]
  apply wpS_seq
  apply wpS_region
  simp [wpOpsS, go_sem, recoverD, hu, Exit.thenS]
  refine wpS_of_wp ?_
  have HU := Lib.hid hu
  clear hu
  have ht := assert_none
  have hn := neq_none
  go_wp2_with fail
  exact ⟨rfl, _, (by cases c₀; have := HU.out; simp at this; subst this; rfl), _, results_none rfl _ _ _, rfl, rfl, rfl⟩

/-- What is done either answers, or gives up with an error's number; the blocks of F it may turn. -/
def Done (F : List Nat) (w : World) (Q : World → Prop) (Qp : Int → World → Prop) (e : Ending) (w' : World) : Prop :=
  Turned F w w' ∧ ((e = .returned (.tuple #[]) ∧ Q w') ∨ ∃ n, e = gaveUp n ∧ Qp n w')
set_option maxHeartbeats 400000 in
set_option maxRecDepth 100000 in
theorem caught_any (g : FuncId) (caps : Array Value) (ef : ∀ args w, (callFunc g args).run Tryz.prog w = .ok (.enter g args) w) (F : List Nat) (Q : World → Prop) (Qp : Int → World → Prop) (w0 : World) (hF : ∀ k ∈ F, k < w0.heap.size)
    (hdo : Calls Tryz.prog g caps (w0.alloc (.cells #[.int .i64 0] 24)) (Done F (w0.alloc (.cells #[.int .i64 0] 24)) Q Qp)) :
    Calls Tryz.prog 184 #[.func (.func g) #[] caps] w0 fun e w' => ∃ w1, Turned F (w0.alloc (.cells #[.int .i64 0] 24)) w1 ∧ Turned [w0.heap.size] w1 w' ∧ ((e = .returned (.int .i64 0) ∧ Q w1) ∨ ∃ n, e = .returned (.int .i64 n) ∧ Qp n w1) := by
  have hmf : ∀ (fn : Fn) (first cap : Array Value) (w : World), (Instr.makeFunc fn first cap).run Tryz.prog w = .ok (.func fn first cap) w := fun _ _ _ _ => rfl
  have HD := Lib.hid hdo
  have K0 := Lib.hid (Blk.new w0 24 #[.int .i64 0])
  have HF := Lib.hid hF
  clear hdo hF
  go_enter_defers Tryz.func184, Tryz.ntmps184
  go_wp2_with fail
  refine HD.out.mono ?_
  rintro e w1 ⟨ht, h | h⟩
  · obtain ⟨rfl, hq⟩ := h
    have K1 := Lib.hid (K0.out.turned ht (fun hm => absurd (HF.out _ hm) (Nat.lt_irrefl _)))
    have HT := Lib.hid ht
    have HQ := Lib.hid hq
    clear ht hq HD K0
    have c0 := K1.out.cell 0
    have f0 := K1.out.free 0
    go_wp2_with fail
    have K2 : Blk (w1.setCell ⟨w0.heap.size, 0, none⟩ (.int .i64 0)) w0.heap.size 24 #[.int .i64 0] := K1.out.set_ 0 (.int .i64 0)
    refine leaves_cons (f := 215) (args := #[.pointer (some ⟨w0.heap.size, 0, none⟩)]) (by simp) (by simp [go_sem]) ?_
    refine (catch_none ⟨w0.heap.size, 0, none⟩ 0 _ (K2.cell 0) (K2.free 0)).mono ?_
    rintro e u' w'' ⟨rfl, rfl, rfl⟩
    have K3 : Blk ((w1.setCell ⟨w0.heap.size, 0, none⟩ (.int .i64 0)).setCell ⟨w0.heap.size, 0, none⟩ (.int .i64 0)) w0.heap.size 24 #[.int .i64 0] := K2.set_ 0 (.int .i64 0)
    have d0 : ((w1.setCell ⟨w0.heap.size, 0, none⟩ (.int .i64 0)).setCell ⟨w0.heap.size, 0, none⟩ (.int .i64 0)).cell? ⟨w0.heap.size, 0, none⟩ = some (.int .i64 0) := K3.cell 0
    have e0 := K3.free 0
    have TT : Turned [w0.heap.size] w1 ((w1.setCell ⟨w0.heap.size, 0, none⟩ (.int .i64 0)).setCell ⟨w0.heap.size, 0, none⟩ (.int .i64 0)) := ((Turned.refl _ _).setCell (.inl (by simp)) _).setCell (.inl (by simp)) _
    refine ⟨.int .i64 0, ?_, w1, HT.out, TT, .inl ⟨rfl, HQ.out⟩⟩
    simp only [results, Tryz.results184]
    simp [go_sem, d0, e0]
  · obtain ⟨n, rfl, hq⟩ := h
    have K1 := Lib.hid (K0.out.turned ht (fun hm => absurd (HF.out _ hm) (Nat.lt_irrefl _)))
    have HT := Lib.hid ht
    have HQ := Lib.hid hq
    clear ht hq HD K0
    have c0 := K1.out.cell 0
    have f0 := K1.out.free 0
    unfold gaveUp
    go_wp2_with fail
    refine leaves_cons (f := 215) (args := #[.pointer (some ⟨w0.heap.size, 0, none⟩)]) (by simp) (by simp [go_sem]) ?_
    refine (catch_pan ⟨w0.heap.size, 0, none⟩ 0 n _ c0 f0).mono ?_
    rintro e u' w'' ⟨rfl, rfl, rfl⟩
    have K3 : Blk (w1.setCell ⟨w0.heap.size, 0, none⟩ (.int .i64 n)) w0.heap.size 24 #[.int .i64 n] := K1.out.set_ 0 (.int .i64 n)
    have d0 : (w1.setCell ⟨w0.heap.size, 0, none⟩ (.int .i64 n)).cell? ⟨w0.heap.size, 0, none⟩ = some (.int .i64 n) := K3.cell 0
    have e0 := K3.free 0
    have TT : Turned [w0.heap.size] w1 (w1.setCell ⟨w0.heap.size, 0, none⟩ (.int .i64 n)) := (Turned.refl _ _).setCell (.inl (by simp)) _
    refine ⟨.int .i64 n, ?_, w1, HT.out, TT, .inr ⟨n, rfl, HQ.out⟩⟩
    simp only [results, Tryz.results184]
    simp [go_sem, d0, e0]
end Go.Proofs.YtdhgiammfpjniaaGreatDoor.Ev
