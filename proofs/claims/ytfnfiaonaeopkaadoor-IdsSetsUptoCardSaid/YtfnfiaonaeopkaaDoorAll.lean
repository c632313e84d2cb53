/- All that are in, rising: the iterator's word. -/
import Derived.Test.YtfnfiaonaeopkaaDoorTz
import Derived.RangeFuncNested
import Derived.RangeFuncBound
import Derived.RangeFuncCalls
import Derived.RangeFuncLeaves
import Derived.Shelf.Abstract
import Derived.Shelf.RegionOpen
import Derived.OwnWalkIn
import Derived.TacticsInMore
import Derived.LoopNIn
import Derived.LoopIn
namespace Go.Proofs.YtfnfiaonaeopkaaDoor
set_option linter.unusedSimpArgs false
set_option linter.unusedVariables false
open Go.RowKit Go.Shelf

def allTo (ws : Nat → Nat) : Nat → List Nat
  | 0 => []
  | k + 1 => allTo ws k ++ bl 64 (k * 64) (ws k)
theorem allTo_len (ws : Nat → Nat) (k : Nat) : (allTo ws k).length = popTo ws k := by
  induction k with
  | zero => rfl
  | succ k ih => unfold allTo popTo; rw [List.length_append, ih, bl_len]
theorem allTo_mem (ws : Nat → Nat) (k n : Nat) : n ∈ allTo ws k ↔ n < 64 * k ∧ isIn ws n = true := by
  induction k with
  | zero => simp [allTo]
  | succ k ih =>
    unfold allTo
    rw [List.mem_append, ih, bl_mem]
    unfold isIn
    constructor
    · rintro (⟨h1, h2⟩ | ⟨h1, h2, h3⟩)
      · exact ⟨by omega, h2⟩
      · have e1 : n / 64 = k := by omega
        have e2 : n % 64 = n - k * 64 := by omega
        exact ⟨by omega, by rw [e1, e2]; exact h3⟩
    · rintro ⟨h1, h2⟩
      by_cases h : n < 64 * k
      · exact .inl ⟨h, h2⟩
      · have e1 : n / 64 = k := by omega
        have e2 : n % 64 = n - k * 64 := by omega
        rw [e1, e2] at h2
        exact .inr ⟨by omega, by omega, h2⟩
theorem allTo_rise (ws : Nat → Nat) (k : Nat) : (allTo ws k).Pairwise (· < ·) := by
  induction k with
  | zero => exact List.Pairwise.nil
  | succ k ih =>
    unfold allTo
    refine List.pairwise_append.2 ⟨ih, bl_rise _ _ _, fun a ha b hb => ?_⟩
    have h1 := (allTo_mem _ _ _).1 ha
    have h2 := (bl_mem _ _ _ _).1 hb
    omega
theorem allTo_prefix (ws : Nat → Nat) {k m : Nat} (h : k ≤ m) : allTo ws k <+: allTo ws m := by
  induction m with
  | zero =>
    obtain rfl : k = 0 := (by omega)
    exact List.prefix_refl _
  | succ m ih =>
    by_cases hk : k = m + 1
    · subst hk; exact List.prefix_refl _
    · exact (ih (by omega)).trans (List.prefix_append _ _)

set_option maxRecDepth 10000000 in
theorem zeroWords (w : World) : (zeroValue 25).run Tryd.prog w = .ok (.agg (Array.replicate 1024 (.int .u64 0))) w := by
  have h : (Tryd.prog.info? 25).map (fun i => (i.zero, i.size)) = some (some (.agg (Array.replicate 1024 (.int .u64 0))), 1024) := by kernel_rfl
  generalize Array.replicate 1024 (Value.int .u64 0) = z at *
  exact (zero_of_info h).1 w
theorem one_cells (ws : Nat → Nat) : (cellsW ws).all (·.oneCell') = true := by
  rw [Array.all_eq_true]
  intro i hi
  have h := cellsW_at ws (i := i) (by rw [cellsW_size] at hi; exact hi)
  rw [Array.getElem?_eq_getElem hi] at h
  have h := Option.some.inj h
  rw [h]; rfl
theorem row_new (w : World) (ws : Nat → Nat) : (loadVar 25 ⟨w.heap.size, 0, none⟩).run Tryd.prog (w.alloc (.cells (cellsW ws) 25)) = .ok (.agg (cellsW ws)) (w.alloc (.cells (cellsW ws) 25)) :=
  run_loadVar_new w 25 (cellsW ws) 1024 24 Tryd.underlying25 (by rw [cellsW_size]; kernel_rfl)

theorem and_low (x : Nat) (hx : x < 18446744073709551616) (h0 : x ≠ 0) : bits .and .u64 (x : Int) ((x : Int) - 1) = ((x &&& (x - 1) : Nat) : Int) := by
  have e : (x : Int) - 1 = ((x - 1 : Nat) : Int) := by omega
  rw [e]
  exact bits_and_u64_nat x (x - 1) hx (by omega)
attribute [local go_sem] Oper.semAt_some

set_option maxHeartbeats 4000000 in
set_option maxRecDepth 100000 in
theorem all1_in (n : Nat) (hn : 1 ≤ n) (l Bn n₀ b : Nat) (ws : Nat → Nat) (J Jx : List Nat → World → Prop) (W : World) (hJ : AbidesFrom W.heap.size J)
    (hY : ∀ pre x W1, J pre W1 → pre.length < popTo ws 1024 → YieldAt Fence.wide (n - 1) Tryd.prog l #[.int .i64 ((x : Nat) : Int)] W1 fun e W' =>
      (e = .returned (.bool true) ∧ J (pre ++ [x]) W' ∧ Below n₀ W1 W') ∨ (e = .returned (.bool false) ∧ Jx (pre ++ [x]) W'))
    (hBn : W.cell? ⟨Bn, 0, none⟩ = some (.pointer (some ⟨b, 0, none⟩))) (hB : BitsAt W b ws) (hT : Tabled W) (hn0 : 0 < n₀) (hn1 : n₀ ≤ W.heap.size) (h0 : J [] W) :
    CallsIn Fence.wide n Tryd.prog 19 #[.func (.yield l) #[] #[], .pointer (some ⟨Bn, 0, none⟩)] W fun e W' => (∃ v, e = .returned v) ∧
      ((∃ ys, ys = allTo ws 1024 ∧ J ys W') ∨ (∃ pre, pre <+: allTo ws 1024 ∧ Jx pre W')) := by
  have HLD := Lib.hid (row_run hB)
  have HLN := Lib.hid (row_new W ws)
  have hsc : (storeCells ⟨W.heap.size, 0, none⟩ (cellsW ws).toList 0).run Tryd.prog (W.alloc (.cells (Array.replicate 1024 (.int .u64 0)) 25)) = .ok () (W.alloc (.cells (cellsW ws) 25)) :=
    run_storeCells_new (P := Tryd.prog) W 25 (Array.replicate 1024 (.int .u64 0)) (cellsW ws) (by rw [cellsW_size]; kernel_rfl) (by rw [cellsW_size, Array.size_replicate]) (one_cells ws)
  have HSM := Lib.hid hB.small
  have HAT := Lib.hid (fun i hi => cellsW_at ws (i := i) hi)
  have HSZ := Lib.hid (cellsW_size ws)
  have HT : Hid (Tabled (W.alloc (.cells (cellsW ws) 25))) := hT.below ((Below.refl n₀ W).alloc hn1 _) hn0
  have HJ0 : Hid (J [] (W.alloc (.cells (cellsW ws) 25))) := hJ _ _ _ none h0 (World.grownBy_alloc _ _ none) (fun r e => by cases e)
  obtain ⟨cs, hcs⟩ : ∃ cs, cs = cellsW ws := ⟨_, rfl⟩
  rw [← hcs] at HLD HLN hsc HAT HSZ HT HJ0
  have HY := Lib.hid hY
  clear hcs hB hT hY h0 hJ
  have hzs := zeroWords
  refine callsIn_of_wp Tryd.func19 rfl trivial ?_ rfl
  simp only [Tryd.ntmps19, List.size_toArray, List.length_cons, List.length_nil, Nat.reduceAdd, Nat.reduceSub, Array.replicate_succ, Array.replicate_zero, List.push_toArray, List.append_toArray, List.nil_append, List.cons_append]
  refine wpIn_wide.2 ?_
  go_wp2_with (first | (refine wpList_load_row rfl (.tmp 10) 25 rfl b cs rfl HLD.out ?_) | (refine wpList_load_row rfl (.tmp 3) 25 rfl W.heap.size cs rfl HLN.out ?_))
  clear hsc hzs
  have hWs : (W.alloc (.cells cs 25)).heap.size = W.heap.size + 1 := by simp
  generalize W.alloc (.cells cs 25) = W1 at *
  refine (wpIn_wide (n := n)).1 ?_
  gi_loopw [13] (fun v13 wr => ∃ k : Nat, k ≤ 1024 ∧ v13 = .int .i64 (k : Int) ∧ J (allTo ws k) wr ∧ Hid (Tabled wr)) (fun v13 wr => 1024 - (intOf v13).toNat)
  case atStart => exact ⟨0, by decide, rfl, HJ0.out, HT⟩
  case round =>
    obtain ⟨k, hk, rfl, hJk, hTk⟩ := hrel
    by_cases hlt : k < 1024
    · have hix := fun w => index_run (HAT.out k hlt) HSZ.out w
      have hlt' : (k : Int) < 1024 := by omega
      have HPR := Lib.hid (allTo_prefix ws (k := k + 1) (m := 1024) (by omega))
      have HLE := Lib.hid (allTo_len ws 1024)
      gi_wp2
      gi_loopw [5] (fun v5 wr => ∃ (x : Nat) (pre : List Nat), v5 = .int .u64 (x : Int) ∧ x < 18446744073709551616 ∧ J pre wr ∧ Hid (Tabled wr) ∧ Hid (pre ++ bl 64 (k * 64) x = allTo ws (k + 1))) (fun v5 wr => (intOf v5).toNat)
      case atStart => exact ⟨ws k, allTo ws k, rfl, HSM.out k, hJk, hTk, rfl⟩
      case round =>
        obtain ⟨x, pre, rfl, hx, hJp, hTp, hpre⟩ := hrel
        by_cases h0 : x = 0
        · subst h0
          have hJ' : J (allTo ws (k + 1)) wr := by
            rw [← hpre.out, bl_zero, List.append_nil]; exact hJp
          gi_wp2
          go_roundw
          case rel => exact ⟨k + 1, by omega, by go_num, hJ', hTp⟩
          case measure => simp [intOf]; omega
        · obtain ⟨hbl, hlt2, hc⟩ := tz_bl x (k * 64) hx h0
          have HPB : Hid ((pre ++ [k * 64 + Lib.ctz 64 x]) ++ bl 64 (k * 64) (x &&& (x - 1)) = allTo ws (k + 1)) := by
            show _ = _
            rw [← hpre.out, hbl, List.append_assoc]; rfl
          have HP1 : Hid (pre ++ [k * 64 + Lib.ctz 64 x] <+: allTo ws 1024) := (HPB.out ▸ List.prefix_append _ _ : pre ++ [k * 64 + Lib.ctz 64 x] <+: allTo ws (k + 1)).trans HPR.out
          have hlen : pre.length < popTo ws 1024 := by
            have := HP1.out.length_le
            rw [HLE.out] at this
            simp at this
            omega
          have CT := Lib.hid (tz_any x hx h0 wr hTp.out)
          obtain ⟨fn, tmps, assign, body, hy, hR⟩ := HY.out pre (k * 64 + Lib.ctz 64 x) wr hJp hlen
          have HAND := Lib.hid (and_low x hx h0)
          have t0 : ((x : Int) != 0) = true := by simp; omega
          have hxa := Lib.hid hlt2
          clear hbl hlt2
          generalize Lib.ctz 64 x = c at *
          rw [show ((k * 64 + c : Nat) : Int) = (k : Int) * 64 + (c : Int) by push_cast; rfl] at hy
          gi_wp2_with (refine ⟨trivial, ?_⟩; gi_at_call 20; refine (callsIn_wide.2 CT.out).mono ?_; rintro e w' ⟨rfl, rfl⟩)
          refine hR.mono ?_
          rintro e W3 (⟨rfl, hJ3, hk3⟩ | ⟨rfl, hJx3⟩)
          · have hT3 : Hid (Tabled W3) := hTp.out.below hk3 hn0
            gi_wp2
            go_roundw
            case rel => exact ⟨x &&& (x - 1), pre ++ [k * 64 + c], by rw [← HAND.out], Nat.lt_trans hxa.out hx, hJ3, hT3, HPB.out⟩
            case measure =>
              have := hxa.out
              rw [HAND.out]
              simp [intOf]
              omega
          · gi_wp2
            refine bodyPost_ret (results_none rfl _ _ _) rfl ?_
            exact ⟨⟨_, rfl⟩, .inr ⟨pre ++ [k * 64 + c], HP1.out, hJx3⟩⟩
    · obtain rfl : k = 1024 := by omega
      gi_wp2
      go_end0
      exact ⟨⟨_, rfl⟩, .inl ⟨_, rfl, hJk⟩⟩
set_option maxHeartbeats 1000000 in
theorem all_any (p : Option Addr) (w : World) :
    Calls Tryd.prog 12 #[.pointer p] w fun e w' => e = .returned (.func (.func 19) #[] #[.pointer (some ⟨w.heap.size, 0, none⟩)]) ∧ w' = w.alloc (.cells #[.pointer p] 49) := by
  go_enter Tryd.func12, Tryd.ntmps12
  go_wp2_with fail
  go_ret
  exact ⟨rfl, rfl⟩
theorem all_stops (n : Nat) (hn : 1 ≤ n) (Bn n₀ b : Nat) (ws : Nat → Nat) (w : World) (hBn0 : Bn < w.heap.size) (hn₀ : n₀ ≤ w.heap.size)
    (hc : w.cell? ⟨Bn, 0, none⟩ = some (.pointer (some ⟨b, 0, none⟩))) (hB : BitsAt w b ws) (hT : Tabled w) (hg : 0 < n₀) :
    SeqStopsK Fence.wide n Tryd.prog 19 #[.pointer (some ⟨Bn, 0, none⟩)] (fun x : Nat => #[Value.int .i64 (x : Int)]) (Below n₀) (fun ys => ys = allTo ws 1024) (fun pre => pre <+: allTo ws 1024) (popTo ws 1024) w := fun l J Jx W hW hJ _ hY h0 =>
  all1_in n hn l Bn n₀ b ws J Jx W hJ hY ((hW.cell (p := ⟨Bn, 0, none⟩) hBn0).trans hc) ⟨hB.blk.below hW hB.blk.lt, hB.small⟩ (hT.below hW (by omega)) hg (Nat.le_trans hn₀ hW.size) h0
end Go.Proofs.YtfnfiaonaeopkaaDoor
