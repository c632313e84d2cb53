/- The contract of Count. -/
import Derived.Test.YtfnfiaonaeopkaaDoorBits
namespace Go.Proofs.YtfnfiaonaeopkaaDoor
set_option linter.unusedSimpArgs false
set_option linter.unusedVariables false
open Go.RowKit

/-- A whole row is loaded. -/
theorem wpList_load_row {P : Program} {w : World} {ops : Array Oper} {rest : List Oper} {o : Oper} {a : Act} {Q : Exit → Act → World → Prop}
    (hg : o.guard = none) (p : Operand) (t : TypeId) (hop : o.op = Op.load t p) (b : Nat) (cs : Array Value) (hp : a.eval p = .pointer (some ⟨b, 0, none⟩))
    (hrun : (loadVar t ⟨b, 0, none⟩).run P w = .ok (.agg cs) w) (hK : wpList P ops Q rest (a.put o.dst (.agg cs)) w) : wpList P ops Q (o :: rest) a w := by
  refine wpList_plain hg fun K' hK' => ?_
  unfold Oper.wp
  simp [execOp, hop, hp, Instr.loadAt, Instr.sureAddr, hrun, Result.andThen]
  exact hK' _ _ hK
theorem row_run {w : World} {b : Nat} {ws : Nat → Nat} (h : BitsAt w b ws) : (loadVar 25 ⟨b, 0, none⟩).run Tryd.prog w = .ok (.agg (cellsW ws)) w :=
  run_loadVar_row (P := Tryd.prog) w b 27 25 (cellsW ws) (0, 0) _ h.blk Tryd.underlying25 rfl (by rw [cellsW_size]; kernel_rfl)

theorem index_run {cs : Array Value} {i x : Nat} (h : cs[i]? = some (.int .u64 (x : Int))) (hs : cs.size = 1024) (w : World) :
    (Instr.index 25 (.agg cs) (.int .i64 (i : Int))).run Tryd.prog w = .ok (.int .u64 (x : Int)) w := by
  have hi : i < 1024 := by rw [← hs]; exact (Array.getElem?_eq_some_iff.1 h).1
  have hz : (sizeOf 24).run Tryd.prog w = .ok 1 w := by kernel_rfl
  have ha : (isAgg 24).run Tryd.prog w = .ok false w := by kernel_rfl
  have hk : (asIntOf (.int .i64 (i : Int))).run Tryd.prog w = .ok (.i64, (i : Int)) w := rfl
  simp [Instr.index, run_underlying Tryd.underlying25, hk, hi, hz, part, ha, h, Result.andThen]

set_option maxHeartbeats 1000000 in
set_option maxRecDepth 100000 in
theorem count_any (w : World) (b : Nat) (ws : Nat → Nat) (h : BitsAt w b ws) :
    Calls Tryd.prog 11 #[.pointer (some ⟨b, 0, none⟩)] w fun e w' => e = .returned (.int .i64 (popTo ws 1024 : Nat)) ∧ w = w' := by
  have HB := Lib.hid h
  have HLD := Lib.hid (row_run h)
  have HAT := Lib.hid (fun i hi => cellsW_at ws (i := i) hi)
  have HSZ := Lib.hid (cellsW_size ws)
  obtain ⟨cs, hcs⟩ : ∃ cs, cs = cellsW ws := ⟨_, rfl⟩
  rw [← hcs] at HLD HAT HSZ
  clear hcs h
  go_enter Tryd.func11, Tryd.ntmps11
  go_wp2_with (refine wpList_load_row rfl (.tmp 10) 25 rfl b cs rfl HLD.out ?_)
  go_loop [3, 12] (fun v3 v12 => ∃ k : Nat, k ≤ 1024 ∧ v3 = .int .i64 ((popTo ws k : Nat) : Int) ∧ v12 = .int .i64 (k : Int)) (fun _ v12 => 1024 - (intOf v12).toNat)
  case atStart => exact ⟨0, by decide, rfl, rfl⟩
  case round =>
    obtain ⟨k, hk, rfl, rfl⟩ := hrel
    have hle := popTo_le ws k
    by_cases hlt : k < 1024
    · have C := Lib.hid (ones_any (ws k) (HB.out.small k))
      have hp := pop_le 64 (ws k)
      have hS := Lib.hid (show popTo ws (k + 1) = popTo ws k + pop 64 (ws k) from rfl)
      have hix := fun w => index_run (HAT.out k hlt) HSZ.out w
      have hlt' : (k : Int) < 1024 := by omega
      generalize pop 64 (ws k) = c at *
      generalize popTo ws k = z at *
      go_wp2_with fail
      refine (C.out _).mono ?_
      rintro e w1 ⟨rfl, rfl⟩
      go_wp2_with fail
      go_round
      case rel => exact ⟨k + 1, by omega, by rw [hS.out]; go_num, by go_num⟩
      case measure => simp [intOf]; omega
    · obtain rfl : k = 1024 := by omega
      go_wp2_with fail
      go_ret
      exact ⟨rfl, rfl⟩
end Go.Proofs.YtfnfiaonaeopkaaDoor
