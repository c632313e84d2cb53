/- What gives up is caught: xmlpull's caught and its closure. -/
import Derived.Test.YtoifibnmincodaaGreatDoorXp
import Derived.Lib.IfaceEq
import Derived.Defers
import Derived.Recover
import Derived.Laws.Pointers
namespace Go.Proofs.YtoifibnmincodaaGreatDoor
set_option linter.unusedSimpArgs false
set_option linter.unusedVariables false
open Go.RowKit

theorem assert_some (n : Int) (w : World) : (Instr.typeAssert (.iface 24 (.int .i64 n)) 20 24 true).run Tryz.prog w = .ok (.tuple #[.int .i64 n, .bool true]) w := by
  simp [Instr.typeAssert, run_underlying Tryz.underlying24, Result.andThen]
theorem assert_none (w : World) : (Instr.typeAssert .nilIface 20 24 true).run Tryz.prog w = .ok (.tuple #[.int .i64 0, .bool false]) w := by
  simp [Instr.typeAssert, run_underlying Tryz.underlying24, Tryz.zeroValue24, Result.andThen]
theorem meths_any : Tryz.prog.methodsAt 20 = #[] := by kernel_rfl
theorem under_any : Tryz.prog.underlying 20 = some (.interface (Tryz.prog.methodsAt 20)) := by rw [meths_any]; exact Tryz.underlying20
theorem neq_some (n : Int) (w : World) : (binOp .neq 20 (.iface 24 (.int .i64 n)) .nilIface).run Tryz.prog w = .ok (.bool true) w := run_neq_held_nil w _ _ _ under_any
theorem neq_none (w : World) : (binOp .neq 20 .nilIface .nilIface).run Tryz.prog w = .ok (.bool false) w := run_neq_nil_nil w _ under_any
theorem caught_slots (p : Addr) : (#[Value.pointer (some p)] ++ Array.replicate (Tryz.f37.ntmps - (#[Value.pointer (some p)] : Array Value).size) undef) = #[Value.pointer (some p), undef, undef, undef, undef, undef, undef, undef, undef, undef, undef, undef, undef, undef, undef, undef, undef, undef] := by
  rw [Tryz.ntmps37]; rfl
set_option maxHeartbeats 400000 in
set_option maxRecDepth 100000 in
theorem catch_pan (p : Addr) (x n : Int) (w : World) (hc : w.cell? p = some (.int .i64 x)) (hz : w.frozen? p = false) :
    CallsD Tryz.prog 37 #[.pointer (some p)] (.panicking [{ v := .iface 24 (.int .i64 n), recovered := false }]) w fun e u' w' =>
      e = .returned (.tuple #[]) ∧ u' = .panicking [{ v := .iface 24 (.int .i64 n), recovered := true }] ∧ w' = w.setCell p (.int .i64 n) := by
  refine callsD_of_wpS Tryz.func37 rfl fun c₀ cs hu => ?_
  rw [caught_slots]
  apply wpS_seq
  apply wpS_region
  simp [wpOpsS, go_sem, recoverD, hu, Exit.thenS]
  refine wpS_of_wp ?_
  clear hu
  have ht := assert_some n
  have hn := neq_some n
  go_wp2_with fail
  exact ⟨rfl, _, rfl, _, results_none rfl _ _ _, rfl, rfl, rfl⟩
set_option maxHeartbeats 400000 in
set_option maxRecDepth 100000 in
theorem catch_none (p : Addr) (x : Int) (w : World) (hc : w.cell? p = some (.int .i64 x)) (hz : w.frozen? p = false) :
    CallsD Tryz.prog 37 #[.pointer (some p)] .returning w fun e u' w' =>
      e = .returned (.tuple #[]) ∧ u' = .returning ∧ w' = w.setCell p (.int .i64 0) := by
  refine callsD_of_wpS Tryz.func37 rfl fun c₀ cs hu => ?_
  rw [caught_slots]
  apply wpS_seq
  apply wpS_region
  simp [wpOpsS, go_sem, recoverD, hu, Exit.thenS]
  refine wpS_of_wp ?_
  have HU := Lib.hid hu
  clear hu
  have ht := assert_none
  have hn := neq_none
  go_wp2_with fail
  exact ⟨rfl, _, (by cases c₀; have := HU.out; simp at this; subst this; rfl), _, results_none rfl _ _ _, rfl, rfl, rfl⟩

/-- What is done either answers, or gives up with an error's number; the blocks of F it may turn. -/
def Done (F : List Nat) (w : World) (Q : World → Prop) (Qp : Int → World → Prop) (e : Ending) (w' : World) : Prop :=
  Turned F w w' ∧ ((e = .returned (.tuple #[]) ∧ Q w') ∨ ∃ n, e = gaveUp n ∧ Qp n w')
set_option maxHeartbeats 400000 in
set_option maxRecDepth 100000 in
theorem caught_any (g : FuncId) (caps : Array Value) (ef : ∀ args w, (callFunc g args).run Tryz.prog w = .ok (.enter g args) w) (F : List Nat) (Q : World → Prop) (Qp : Int → World → Prop) (w0 : World) (hF : ∀ k ∈ F, k < w0.heap.size)
    (hdo : Calls Tryz.prog g caps (w0.alloc (.cells #[.int .i64 0] 24)) (Done F (w0.alloc (.cells #[.int .i64 0] 24)) Q Qp)) :
    Calls Tryz.prog 25 #[.func (.func g) #[] caps] w0 fun e w' => ∃ w1, Turned F (w0.alloc (.cells #[.int .i64 0] 24)) w1 ∧ Turned [w0.heap.size] w1 w' ∧ ((e = .returned (.int .i64 0) ∧ Q w1) ∨ ∃ n, e = .returned (.int .i64 n) ∧ Qp n w1) := by
  have hmf : ∀ (fn : Fn) (first cap : Array Value) (w : World), (Instr.makeFunc fn first cap).run Tryz.prog w = .ok (.func fn first cap) w := fun _ _ _ _ => rfl
  have HD := Lib.hid hdo
  have K0 := Lib.hid (Blk.new w0 24 #[.int .i64 0])
  have HF := Lib.hid hF
  clear hdo hF
  go_enter_defers Tryz.func25, Tryz.ntmps25
  go_wp2_with fail
  refine HD.out.mono ?_
  rintro e w1 ⟨ht, h | h⟩
  · obtain ⟨rfl, hq⟩ := h
    have K1 := Lib.hid (K0.out.turned ht (fun hm => absurd (HF.out _ hm) (Nat.lt_irrefl _)))
    have HT := Lib.hid ht
    have HQ := Lib.hid hq
    clear ht hq HD K0
    have c0 := K1.out.cell 0
    have f0 := K1.out.free 0
    go_wp2_with fail
    have K2 : Blk (w1.setCell ⟨w0.heap.size, 0, none⟩ (.int .i64 0)) w0.heap.size 24 #[.int .i64 0] := K1.out.set_ 0 (.int .i64 0)
    refine leaves_cons (f := 37) (args := #[.pointer (some ⟨w0.heap.size, 0, none⟩)]) (by simp) (by simp [go_sem]) ?_
    refine (catch_none ⟨w0.heap.size, 0, none⟩ 0 _ (K2.cell 0) (K2.free 0)).mono ?_
    rintro e u' w'' ⟨rfl, rfl, rfl⟩
    have K3 : Blk ((w1.setCell ⟨w0.heap.size, 0, none⟩ (.int .i64 0)).setCell ⟨w0.heap.size, 0, none⟩ (.int .i64 0)) w0.heap.size 24 #[.int .i64 0] := K2.set_ 0 (.int .i64 0)
    have d0 : ((w1.setCell ⟨w0.heap.size, 0, none⟩ (.int .i64 0)).setCell ⟨w0.heap.size, 0, none⟩ (.int .i64 0)).cell? ⟨w0.heap.size, 0, none⟩ = some (.int .i64 0) := K3.cell 0
    have e0 := K3.free 0
    have TT : Turned [w0.heap.size] w1 ((w1.setCell ⟨w0.heap.size, 0, none⟩ (.int .i64 0)).setCell ⟨w0.heap.size, 0, none⟩ (.int .i64 0)) := ((Turned.refl _ _).setCell (.inl (by simp)) _).setCell (.inl (by simp)) _
    refine ⟨.int .i64 0, ?_, w1, HT.out, TT, .inl ⟨rfl, HQ.out⟩⟩
    simp only [results, Tryz.results25]
    simp [go_sem, d0, e0]
  · obtain ⟨n, rfl, hq⟩ := h
    have K1 := Lib.hid (K0.out.turned ht (fun hm => absurd (HF.out _ hm) (Nat.lt_irrefl _)))
    have HT := Lib.hid ht
    have HQ := Lib.hid hq
    clear ht hq HD K0
    have c0 := K1.out.cell 0
    have f0 := K1.out.free 0
    unfold gaveUp
    go_wp2_with fail
    refine leaves_cons (f := 37) (args := #[.pointer (some ⟨w0.heap.size, 0, none⟩)]) (by simp) (by simp [go_sem]) ?_
    refine (catch_pan ⟨w0.heap.size, 0, none⟩ 0 n _ c0 f0).mono ?_
    rintro e u' w'' ⟨rfl, rfl, rfl⟩
    have K3 : Blk (w1.setCell ⟨w0.heap.size, 0, none⟩ (.int .i64 n)) w0.heap.size 24 #[.int .i64 n] := K1.out.set_ 0 (.int .i64 n)
    have d0 : (w1.setCell ⟨w0.heap.size, 0, none⟩ (.int .i64 n)).cell? ⟨w0.heap.size, 0, none⟩ = some (.int .i64 n) := K3.cell 0
    have e0 := K3.free 0
    have TT : Turned [w0.heap.size] w1 (w1.setCell ⟨w0.heap.size, 0, none⟩ (.int .i64 n)) := (Turned.refl _ _).setCell (.inl (by simp)) _
    refine ⟨.int .i64 n, ?_, w1, HT.out, TT, .inr ⟨n, rfl, HQ.out⟩⟩
    simp only [results, Tryz.results25]
    simp [go_sem, d0, e0]
end Go.Proofs.YtoifibnmincodaaGreatDoor
