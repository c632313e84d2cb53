/- Parts of the proof. -/
import Derived.Test.YtdhgiammfpjniaaGreatDoorZrbb
import Derived.StillTailTactics
namespace Go.Proofs.YtdhgiammfpjniaaGreatDoor.Ev
set_option linter.unusedSimpArgs false
set_option linter.unusedVariables false
open Go.RowKit
set_option maxHeartbeats 2000000 in
set_option maxRecDepth 1000000 in
theorem aoQ1 (text : ByteArray) (hs : text.size ≤ 4194304) (w0 : World) (TGT : Option Dep) (n : Nat) (S : Nat → Prop) (ob co g c4 : Nat) (L : List OItem) (ik : Int) (ir : Rows5) (d : Dep) (dt : Value) (word rest : ByteArray) (U : Nat → Value) (w : World) (drow : Array Value) (e0 e1 e2 e3 e4 : Value) (hrow : drow = #[e0, e1, e2, e3, e4])
 (HR : Hid (RSt w0 w S (.slice (some ⟨ob, 0, none⟩) (L.length + 1) co) (L ++ [⟨ik, ir ++ [(d, dt)], .slice (some ⟨g, 0, none⟩) (ir.length + 1) c4⟩]) drow)) (HKi : Hid (∀ it ∈ L, it.k = 0 ∨ (2 ≤ it.k ∧ it.k ≤ 6))) (HKk : Hid (ik = 0 ∨ (2 ≤ ik ∧ ik ≤ 6))) (HEm : Hid (word.data.toList = [] → rest.data.toList = [])) (HN : Hid (n = remB word rest))
 (HGo : Hid (TGT = readM ((ik, ir.map Prod.fst) :: stkOf L) (some d) (abQt word.data.toList rest.data.toList))) (HM : Hid (openM L + (1 + aaQk (ir.map Prod.fst)) + nodes d + remB word rest ≤ text.size))
 (h41 : word.data.toList = [41]) : rC.wp Tryz.prog (jump2 (fun a' w' => ∃ m, m < n ∧ JA w0 text TGT m a' w') (fun a' w' => ∃ m, m < n ∧ JB w0 text TGT m a' w') (bodyPost Tryz.prog Tryz.f186 (aaQ0 w0 text TGT))) { tmps := #[.string text, U 1, .pointer (some ⟨w0.heap.size, 0, none⟩), .slice (some ⟨ob, 0, none⟩) (L.length + 1) co, .pointer (some ⟨w0.heap.size + 1, 0, none⟩), .string word, .string rest, .pointer (some ⟨ob, L.length * 5, none⟩), U 8, U 9, U 10, U 11, U 12, U 13, U 14, U 15, U 16, U 17, U 18, U 19, U 20, U 21, U 22, U 23, U 24, U 25, U 26, U 27, U 28, U 29, U 30, U 31, U 32, U 33, U 34, U 35, U 36, U 37, U 38, U 39, U 40, U 41, U 42, U 43, U 44, U 45, U 46, U 47, U 48, U 49, U 50, U 51, U 52, U 53, U 54, U 55, U 56, U 57, U 58, U 59, U 60, U 61, U 62, U 63, U 64, U 65, U 66, U 67, U 68, U 69, U 70, U 71, U 72, U 73, U 74, U 75, U 76, U 77, U 78, U 79, U 80, U 81, U 82, U 83, U 84, U 85, U 86, U 87, U 88, U 89, U 90, U 91, U 92, U 93, U 94, U 95, U 96, U 97, U 98, U 99, U 100, U 101, U 102, U 103, U 104, U 105, U 106, U 107, U 108, U 109, U 110, U 111, U 112, U 113, U 114, U 115, U 116, U 117, U 118, U 119, U 120, U 121, U 122, U 123, U 124, U 125, U 126, U 127, U 128], defers := [] } w := by
 subst hrow
 have CUT := hQQ (fun s h w => cutH s h w)
 obtain ⟨i0, i1, i2, i3, i4, ifr, ic1, ic2⟩ := acQ5 HR.out.own
 have d0 := HR.out.dblk.cell 0
 have d1 := HR.out.dblk.cell 1
 have d2 := HR.out.dblk.cell 2
 have d3 := HR.out.dblk.cell 3
 have d4 := HR.out.dblk.cell 4
 have f0 := HR.out.dblk.free 0
 have f1 := HR.out.dblk.free 1
 have f2 := HR.out.dblk.free 2
 have f3 := HR.out.dblk.free 3
 have f4 := HR.out.dblk.free 4
 simp at d0 d1 d2 d3 d4 i0 i1 i2 i3 i4
 clear ifr
 have hws : word.size = 1 := by rw [← aaQd, h41]; rfl
 have hrem : remB word rest = 1 + rest.size := by unfold remB; omega
 have hM := HM.out
 have hl := ahQh L
 have hlr := abQ7 (ir.map Prod.fst)
 rw [List.length_map] at hlr
 have hsz : L.length < 4194304 := by omega
 have hsr : ir.length < 4194304 := by omega
 have hrs : rest.size ≤ 4194304 := by omega
 have HNr : Hid (rest.size < n) := by have := HN.out; show rest.size < n; omega
 have HM2 : Hid (openM L + (1 + (aaQk (ir.map Prod.fst) + nodes d)) + rest.size ≤ text.size) := by show _ ≤ _; omega
 unfold maxLen at ic2
 have hpop := RSt.pop (n := 0) HR.out
 obtain ⟨P1, P2⟩ := hpop
 have hbase := P1.base
 have Q1 := hQQ (((((P1.setD 0 (.int .i64 ik)).setD 1 (.string ⟨#[]⟩)).setD 2 (.int .i64 0)).setD 3 (.string ⟨#[]⟩)).setD 4 (.slice (some ⟨g, 0, none⟩) (ir.length + 1) c4))
 have Q2 := hQQ (P2.stay (fun _ h => h) (StayS.turned (F := [w0.heap.size + 1]) ((((((Turned.refl [w0.heap.size + 1] w).setCell (p := ⟨w0.heap.size + 1, 0, none⟩) (.inl (by simp)) (.int .i64 ik)).setCell (p := ⟨w0.heap.size + 1, 1, none⟩) (.inl (by simp)) (.string ⟨#[]⟩)).setCell (p := ⟨w0.heap.size + 1, 2, none⟩) (.inl (by simp)) (.int .i64 0)).setCell (p := ⟨w0.heap.size + 1, 3, none⟩) (.inl (by simp)) (.string ⟨#[]⟩)).setCell (p := ⟨w0.heap.size + 1, 4, none⟩) (.inl (by simp)) (.slice (some ⟨g, 0, none⟩) (ir.length + 1) c4)) (fun b hb hg => by have := hbase b hb; simp at hg; omega)))
 have t41 : (word.toList == [41]) = true := by have := acQe (aaQx h41); simpa using this
 clear P1 P2 hbase hM hl hlr hrem hws
 conv in rC => whnf
 go_wp2_with fail
 refine (CUT.out rest (by unfold maxLen; omega) _).mono ?_
 rintro e w5 ⟨a, b, HC, rfl, q5, rfl⟩
 have HLen : (node ik ((ir ++ [(d, dt)]).map Prod.fst)).args.length = ir.length + 1 := by simp [node, Dep.args]
 have RL := hQQ (And.intro (Q1.out.drew_ q5) (Q2.out.drew_ q5))
 generalize World.drewN _ q5 = W at RL ⊢
 clear Q1 Q2 d0 d1 d2 d3 d4 f0 f1 f2 f3 f4 i0 i1 i2 i3 i4
 have R5 := RL.out.1
 rw [row_lit] at R5
 have HR5 := hQQ R5
 have HL5 := hQQ RL.out.2
 clear R5 RL
 go_wp2_with fail
 refine wp_goto ?_
 refine .inr ⟨rfl, remB a b, ?_, fun b => S b ∨ (Value.slice (some ⟨g, 0, none⟩) (ir.length + 1) c4).ownBlock = some b, .slice (some ⟨ob, 0, none⟩) L.length co, L, node ik ((ir ++ [(d, dt)]).map Prod.fst), some ⟨g, 0, none⟩, c4, a, b, ⟨⟨.pointer (some ⟨ob, L.length * 5, none⟩), ActR.of _ (by kernel_rfl)⟩, ?_, HKi.out, HC.out.end_, rfl⟩, ?_, ?_, ?_⟩
 ·have := HC.out.rem; have := HNr.out; omega
 ·rw [HLen]; exact HR5.out
 ·rw [HLen]; exact HL5.out
 ·have hst : abQt word.data.toList rest.data.toList = [41] :: words rest.data.toList := by rw [h41]; exact abQc _ (by decide)
  rw [HGo.out, hst, ahQa, HC.out.words_]
  simp
 ·have h1 := HC.out.rem
  have h2 := HM2.out
  have h3 : nodes (node ik ((ir ++ [(d, dt)]).map Prod.fst)) = 1 + (aaQk (ir.map Prod.fst) + nodes d) := by
   rw [abQ1]
   show 1 + aaQk ((ir ++ [(d, dt)]).map Prod.fst) = _
   rw [List.map_append, abQm]
   simp [aaQk]
  omega
end Go.Proofs.YtdhgiammfpjniaaGreatDoor.Ev
namespace Go.Proofs.YtdhgiammfpjniaaGreatDoor.Ev
set_option linter.unusedSimpArgs false
set_option linter.unusedVariables false
open Go.RowKit
set_option maxHeartbeats 2000000 in
set_option maxRecDepth 1000000 in
theorem aqQn (text : ByteArray) (hs : text.size ≤ 4194304) (w0 : World) (TGT : Option Dep) (n : Nat) (S : Nat → Prop) (ob co g c4 : Nat) (L : List OItem) (ik : Int) (ir : Rows5) (d : Dep) (A : Option Addr) (c : Nat) (word rest : ByteArray) (U : Nat → Value) (w : World)
 (HR : Hid (RSt w0 w S (.slice (some ⟨ob, 0, none⟩) (L.length + 1) co) (L ++ [⟨ik, ir ++ [(d, .slice A d.args.length c)], .slice (some ⟨g, 0, none⟩) (ir.length + 1) c4⟩]) (rowD d (.slice A d.args.length c)))) (HKi : Hid (∀ it ∈ L, it.k = 0 ∨ (2 ≤ it.k ∧ it.k ≤ 6))) (HEm : Hid (word.data.toList = [] → rest.data.toList = [])) (HN : Hid (n = remB word rest))
 (HGo : Hid (TGT = if word.data.toList = btw ik (ir.length + 1) then readM ((ik, (ir.map Prod.fst) ++ [d]) :: stkOf L) none (words rest.data.toList) else none)) (HM : Hid (openM L + (1 + aaQk (ir.map Prod.fst)) + nodes d + remB word rest ≤ text.size))
 (hk : 2 ≤ ik ∧ ik ≤ 6) (K : Act → World → Prop) (hK : ∀ a w, rT.wp Tryz.prog (jump2 (fun a' w' => ∃ m, m < n ∧ JA w0 text TGT m a' w') (fun a' w' => ∃ m, m < n ∧ JB w0 text TGT m a' w') (bodyPost Tryz.prog Tryz.f186 (aaQ0 w0 text TGT))) a w → K a w) : rH.wp Tryz.prog (Exit.then K (jump2 (fun a' w' => ∃ m, m < n ∧ JA w0 text TGT m a' w') (fun a' w' => ∃ m, m < n ∧ JB w0 text TGT m a' w') (bodyPost Tryz.prog Tryz.f186 (aaQ0 w0 text TGT)))) { tmps := #[.string text, U 1, .pointer (some ⟨w0.heap.size, 0, none⟩), .slice (some ⟨ob, 0, none⟩) (L.length + 1) co, .pointer (some ⟨w0.heap.size + 1, 0, none⟩), .string word, .string rest, .pointer (some ⟨ob, L.length * 5, none⟩), U 8, U 9, U 10, U 11, U 12, U 13, U 14, U 15, U 16, U 17, U 18, U 19, U 20, U 21, U 22, U 23, U 24, U 25, U 26, U 27, U 28, U 29, U 30, U 31, U 32, U 33, U 34, U 35, U 36, U 37, U 38, U 39, U 40, U 41, U 42, U 43, U 44, U 45, U 46, U 47, U 48, U 49, U 50, U 51, U 52, U 53, U 54, U 55, U 56, U 57, U 58, U 59, U 60, U 61, U 62, U 63, U 64, U 65, U 66, U 67, U 68, U 69, U 70, U 71, U 72, U 73, U 74, U 75, U 76, U 77, U 78, U 79, U 80, U 81, U 82, U 83, U 84, U 85, U 86, U 87, U 88, U 89, U 90, U 91, U 92, U 93, U 94, U 95, U 96, U 97, U 98, U 99, U 100, U 101, U 102, U 103, U 104, U 105, U 106, U 107, U 108, U 109, U 110, U 111, U 112, U 113, U 114, U 115, U 116, U 117, U 118, U 119, U 120, U 121, U 122, U 123, U 124, U 125, U 126, U 127, U 128], defers := [] } w := by
 have CUT := hQQ (fun s h w => cutH s h w)
 have MY := hQQ agQm
 have MN := hQQ ahQf
 obtain ⟨i0, i1, i2, i3, i4, ifr, ic1, ic2⟩ := acQ5 HR.out.own
 simp at i0 i1 i2 i3 i4
 clear ifr i1 i2 i3
 have hsr : ir.length < 4194304 := by
  have hM := HM.out
  have hlr := abQ7 (ir.map Prod.fst)
  rw [List.length_map] at hlr
  omega
 have hrs : rest.size ≤ 4194304 := by have hM := HM.out; unfold remB at hM; omega
 obtain ⟨B, HB⟩ : ∃ B, Hid (B = mkS (btw ik (ir.length + 1))) := ⟨_, rfl⟩
 have CB : Hid (Calls Tryz.prog 218 #[.int .i64 ik, .int .i64 ((ir.length : Int) + 1)] w.drew fun e w'' => e = .returned (.string B) ∧ w'' = w.drew) := by
  rw [HB.out]
  have := amQ7 ik (ir.length + 1) ⟨by omega, by omega⟩ w.drew (HR.out.drew_ 1).tabs.words
  rw [show ((ir.length + 1 : Nat) : Int) = (ir.length : Int) + 1 by omega] at this
  exact this.mono fun e w'' h => ⟨h.1, h.2.symm⟩
 have HR1 : Hid (RSt w0 w.drew S (.slice (some ⟨ob, 0, none⟩) (L.length + 1) co) (L ++ [⟨ik, ir ++ [(d, .slice A d.args.length c)], .slice (some ⟨g, 0, none⟩) (ir.length + 1) c4⟩]) (rowD d (.slice A d.args.length c))) := HR.out.drew_ 1
 have tk : (ik == 0) = false := beq_eq_false_iff_ne.2 (by omega)
 have tk' : ¬ ik = 0 := by omega
 have tk3 : (ik != 0) = true := bne_iff_ne.2 tk'
 by_cases hb : word.data.toList = btw ik (ir.length + 1)
 ·have tb : (word.toList == B.toList) = true := acQe (by rw [HB.out]; exact aaQx hb)
  have HG2 : Hid (TGT = readM ((ik, (ir.map Prod.fst) ++ [d]) :: stkOf L) none (words rest.data.toList)) := by
   have := HGo.out
   rwa [if_pos hb] at this
  have HNr : Hid (rest.size < n) := by
   have := HN.out
   have h3 : 1 ≤ word.size := by rw [← aaQd]; exact List.length_pos_iff.2 (by rw [hb]; exact (anQ7 hk.1 hk.2).2.2.1)
   show rest.size < n
   unfold remB at this
   omega
  have HM2 : Hid (openM (L ++ [(⟨ik, ir ++ [(d, .slice A d.args.length c)], .slice (some ⟨g, 0, none⟩) (ir.length + 1) c4⟩ : OItem)]) + rest.size ≤ text.size) := by
   show _ ≤ _
   rw [aeQh]
   have h2 := HM.out
   show openM L + (1 + aaQk ((ir ++ [(d, Value.slice A d.args.length c)]).map Prod.fst)) + rest.size ≤ _
   rw [List.map_append, abQm]
   unfold remB at h2
   simp only [List.map_cons, List.map_nil, aaQk]
   omega
  have HKi2 : Hid (∀ it ∈ L ++ [(⟨ik, ir ++ [(d, .slice A d.args.length c)], .slice (some ⟨g, 0, none⟩) (ir.length + 1) c4⟩ : OItem)], it.k = 0 ∨ (2 ≤ it.k ∧ it.k ≤ 6)) := by
   intro it hi'
   rcases List.mem_append.1 hi' with hi' | hi'
   ·exact HKi.out it hi'
   ·simp at hi'; subst hi'; exact .inr hk
  clear hb HR
  conv in rH => whnf
  refine wp_region_still_tail 19 (by kernel_rfl) (by kernel_rfl) ?_
  simp only [List.take_succ_cons, List.take_zero, List.drop_succ_cons, List.drop_zero]
  still_step
  still_step
  still_step
  still_step
  still_step
  still_step
  still_step
  still_step
  still_step
  still_step
  still_step
  still_step
  still_step
  still_step
  still_step
  still_step
  still_call CB.out
  still_step
  still_step
  refine wpStill_nil ?_
  change wpList _ _ _ _ _ w.drew
  generalize w.drew = W at HR1 ⊢
  clear CB i0 i4
  go_wp2_with fail
  refine (MY.out _).mono ?_
  rintro e w2 ⟨rfl, rfl⟩
  go_wp2_with fail
  conv in rT => whnf
  go_wp2_with fail
  refine (CUT.out rest (by unfold maxLen; omega) _).mono ?_
  rintro e w5 ⟨a, b, HC, rfl, q5, rfl⟩
  go_wp2_with fail
  refine wp_goto ?_
  refine .inl ⟨rfl, remB a b, ?_, S, .slice (some ⟨ob, 0, none⟩) (L.length + 1) co, L ++ [⟨ik, ir ++ [(d, .slice A d.args.length c)], .slice (some ⟨g, 0, none⟩) (ir.length + 1) c4⟩], d, A, d.args.length, c, a, b, ⟨⟨.pointer (some ⟨ob, L.length * 5, none⟩), ActR.of _ (by kernel_rfl)⟩, HR1.out.drew_ _, HKi2.out, HC.out.end_, rfl⟩, ?_, ?_⟩
  ·have := HC.out.rem; have := HNr.out; omega
  ·rw [HG2.out, HC.out.words_, afQo]
   simp
  ·have := HC.out.rem; have := HM2.out; omega
 ·have tb : (word.toList == B.toList) = false := adQc (by rw [HB.out]; exact fun e => hb (by rw [e]; rfl))
  have HP : Hid (aaQ0 w0 text TGT (abQf 50) w.drew) := by
   refine ⟨HR1.out.below, .inl ⟨?_, rfl⟩⟩
   have := HGo.out
   rwa [if_neg hb] at this
  clear hb HR HR1
  conv in rH => whnf
  refine wp_region_still_tail 19 (by kernel_rfl) (by kernel_rfl) ?_
  simp only [List.take_succ_cons, List.take_zero, List.drop_succ_cons, List.drop_zero]
  still_step
  still_step
  still_step
  still_step
  still_step
  still_step
  still_step
  still_step
  still_step
  still_step
  still_step
  still_step
  still_step
  still_step
  still_step
  still_step
  still_call CB.out
  still_step
  still_step
  refine wpStill_nil ?_
  change wpList _ _ _ _ _ w.drew
  generalize w.drew = W at HP ⊢
  clear CB i0 i4
  go_wp2_with fail
  refine (MN.out _).mono ?_
  rintro e w2 ⟨rfl, rfl⟩
  unfold abQf at HP ⊢
  go_wp2_with fail
  exact ⟨rfl, HP.out⟩
set_option maxHeartbeats 8000000 in
set_option maxRecDepth 1000000 in
theorem aoQ0 (text : ByteArray) (hs : text.size ≤ 4194304) (w0 : World) (HT : Hid (Tabs w0)) (TGT : Option Dep) (HTGT : Hid (TGT = readM [] none (words text.data.toList)))
 (HH : Hid (∀ n a w, JA w0 text TGT n a w → rA.wp Tryz.prog (jump2 (fun a' w' => ∃ m, JA w0 text TGT m a' w') (fun a' w' => ∃ m, JB w0 text TGT m a' w') (bodyPost Tryz.prog Tryz.f186 (aaQ0 w0 text TGT))) a w)) : rdScope.wp Tryz.prog (jump2 (fun a' w' => ∃ m, JA w0 text TGT m a' w') (fun a' w' => ∃ m, JB w0 text TGT m a' w') (bodyPost Tryz.prog Tryz.f186 (aaQ0 w0 text TGT))) { tmps := #[.string text, undef, .pointer (some ⟨w0.heap.size, 0, none⟩), undef, undef, undef, undef, undef, undef, undef, undef, undef, undef, undef, undef, undef, undef, undef, undef, undef, undef, undef, undef, undef, undef, undef, undef, undef, undef, undef, undef, undef, undef, undef, undef, undef, undef, undef, undef, undef, undef, undef, undef, undef, undef, undef, undef, undef, undef, undef, undef, undef, undef, undef, undef, undef, undef, undef, undef, undef, undef, undef, undef, undef, undef, undef, undef, undef, undef, undef, undef, undef, undef, undef, undef, undef, undef, undef, undef, undef, undef, undef, undef, undef, undef, undef, undef, undef, undef, undef, undef, undef, undef, undef, undef, undef, undef, undef, undef, undef, undef, undef, undef, undef, undef, undef, undef, undef, undef, undef, undef, undef, undef, undef, undef, undef, undef, undef, undef, undef, undef, undef, undef, undef, undef, undef, undef, undef, undef], defers := [] } (w0.alloc (.cells #[.int .i64 0, .string ⟨#[]⟩, .int .i64 0, .string ⟨#[]⟩, .slice none 0 0] 39)) := by
 have CUT := hQQ (fun s h w => amQ4 s h w)
 conv in rdScope => whnf
 go_wp2_with fail
 refine (CUT.out text (by unfold maxLen; omega) _).mono ?_
 rintro e w1 ⟨rfl, n, rfl⟩
 go_wp2_with fail
 go_step3
 rename_i K hK
 refine hK _ _ (HH.out _ _ _ ⟨fun _ => False, .slice none 0 0, [], .mk 0 ⟨#[]⟩ 0 ⟨#[]⟩ [], none, 0, 0, mkS (cutW text.data.toList).1, mkS (cutW text.data.toList).2, ⟨⟨undef, ActR.of _ (by kernel_rfl)⟩, ?_, fun it hi => (by cases hi), fun h => ?_, rfl⟩, ?_, ?_⟩)
 ·exact (RSt.init w0 HT.out).below_ ⟨rfl, rfl, rfl, Nat.le_refl _, fun _ _ => rfl⟩
 ·exact ajQn h
 ·rw [aaQn, aaQn, abQq]; exact HTGT.out
 ·simp only [openM, Nat.zero_add]; exact ajQl text
end Go.Proofs.YtdhgiammfpjniaaGreatDoor.Ev
namespace Go.Proofs.YtdhgiammfpjniaaGreatDoor.Ev
set_option linter.unusedSimpArgs false
set_option linter.unusedVariables false
open Go.RowKit
set_option maxHeartbeats 8000000 in
set_option maxRecDepth 1000000 in
theorem aqQk (text : ByteArray) (hs : text.size ≤ 4194304) (w0 : World) (TGT : Option Dep) (n : Nat) (S : Nat → Prop) (v : Value) (L : List OItem) (d : Dep) (A : Option Addr) (k c : Nat) (word rest : ByteArray) (v7 : Value) (U : Nat → Value) (w : World)
 (HR : Hid (RSt w0 w S v L (rowD d (.slice A k c)))) (HKi : Hid (∀ it ∈ L, it.k = 0 ∨ (2 ≤ it.k ∧ it.k ≤ 6))) (HEm : Hid (word.data.toList = [] → rest.data.toList = [])) (HN : Hid (n = remB word rest))
 (HGo : Hid (TGT = readM (stkOf L) none (abQt word.data.toList rest.data.toList))) (HM : Hid (openM L + remB word rest ≤ text.size))
 (h40 : word.data.toList = [40]) : rA.wp Tryz.prog (jump2 (fun a' w' => ∃ m, m < n ∧ JA w0 text TGT m a' w') (fun a' w' => ∃ m, m < n ∧ JB w0 text TGT m a' w') (bodyPost Tryz.prog Tryz.f186 (aaQ0 w0 text TGT))) { tmps := #[.string text, U 1, .pointer (some ⟨w0.heap.size, 0, none⟩), v, .pointer (some ⟨w0.heap.size + 1, 0, none⟩), .string word, .string rest, v7, U 8, U 9, U 10, U 11, U 12, U 13, U 14, U 15, U 16, U 17, U 18, U 19, U 20, U 21, U 22, U 23, U 24, U 25, U 26, U 27, U 28, U 29, U 30, U 31, U 32, U 33, U 34, U 35, U 36, U 37, U 38, U 39, U 40, U 41, U 42, U 43, U 44, U 45, U 46, U 47, U 48, U 49, U 50, U 51, U 52, U 53, U 54, U 55, U 56, U 57, U 58, U 59, U 60, U 61, U 62, U 63, U 64, U 65, U 66, U 67, U 68, U 69, U 70, U 71, U 72, U 73, U 74, U 75, U 76, U 77, U 78, U 79, U 80, U 81, U 82, U 83, U 84, U 85, U 86, U 87, U 88, U 89, U 90, U 91, U 92, U 93, U 94, U 95, U 96, U 97, U 98, U 99, U 100, U 101, U 102, U 103, U 104, U 105, U 106, U 107, U 108, U 109, U 110, U 111, U 112, U 113, U 114, U 115, U 116, U 117, U 118, U 119, U 120, U 121, U 122, U 123, U 124, U 125, U 126, U 127, U 128], defers := [] } w := by
 have CUT := hQQ (fun s h w => amQ4 s h w)
 obtain ⟨A', c', rfl, h1, h2⟩ := aaQc HR.out.own
 have hba : Below w.heap.size w (w.alloc (.cells #[.int .i64 0, .string ⟨#[]⟩, .int .i64 0, .string ⟨#[]⟩, .slice none 0 0] 39)) := (Below.refl _ _).alloc (Nat.le_refl _) _
 have H4 := hQQ (HR.out.below_ hba)
 have O4 := hQQ H4.out.own
 obtain ⟨i0, z0, hi0, hz0, hz1, hz2, hz3⟩ := aaQ7
 have hi := hQQ hi0
 have HZ := hQQ (And.intro hz0 (And.intro hz1 (And.intro hz2 hz3)))
 have hws : word.size = 1 := by rw [← aaQd, h40]; rfl
 have hM := HM.out
 have hl := ahQh L
 have hrem : remB word rest = 1 + rest.size := by unfold remB; omega
 have hLs : L.length ≤ 4194304 := by omega
 have hrs : rest.size ≤ 4194304 := by omega
 have HB := hQQ (show w0.heap.size + 1 + 1 ≤ w.heap.size + 1 by have := HR.out.dblk.lt; omega)
 have hst : abQt word.data.toList rest.data.toList = [40] :: words rest.data.toList := by rw [h40]; exact abQc _ (by decide)
 have HG2 : Hid (TGT = readM (stkOf (L ++ [⟨0, [], .slice none 0 0⟩])) none (words rest.data.toList)) := by
  have := HGo.out
  rw [hst, ahQ9] at this
  rw [afQo]; exact this
 have HO : Hid (openM (L ++ [(⟨0, [], .slice none 0 0⟩ : OItem)]) + rest.size ≤ text.size) := by
  have : openM (L ++ [(⟨0, [], .slice none 0 0⟩ : OItem)]) = openM L + (1 + 0) := aeQh L _
  show openM (L ++ [(⟨0, [], .slice none 0 0⟩ : OItem)]) + rest.size ≤ text.size
  omega
 have HNr : Hid (rest.size < n) := by have := HN.out; show rest.size < n; omega
 have t1 : (word.toList == [40]) = true := by have := acQe (aaQx h40); simpa using this
 clear h1 h2 hba hi0 hz0 hz1 hz2 hz3 hM hl hrem hst hws
 conv in rA => whnf
 go_wp2_with (at_builtin; refine wpList_append_own_at _ rfl (.tmp 15) (.tmp 17) 35 rfl (w0.heap.size + 1 + 1) 39 i0 z0 5 72 Tryz.underlying35 hi.out HZ.out.1 HZ.out.2.2.1 HZ.out.2.2.2 HZ.out.2.1 (by decide) (.slice A' L.length c') L.length (cells5 (L.map adQr)) rfl O4.out ⟨w.heap.size, 0, none⟩ 1 1 [.int .i64 0, .string ⟨#[]⟩, .int .i64 0, .string ⟨#[]⟩, .slice none 0 0] rfl rfl (alQp _ _ _) (fun u hu => by simp at hu; rcases hu with rfl | rfl | rfl | rfl | rfl <;> rfl) (by unfold maxLen; omega) (by omega) (by rw [World.size_alloc]; exact HB.out) ?_; intro v4 w4 hown4 hg4 hnil4 hat4; have H5 := hQQ (H4.out.push hown4 hg4 hat4); clear hown4 hg4 hnil4 hat4)
 refine (CUT.out rest (by unfold maxLen; omega) _).mono ?_
 rintro e w5 ⟨rfl, q, rfl⟩
 go_wp2_with fail
 refine wp_goto ?_
 refine .inl ⟨rfl, _, ?_, S, v4, L ++ [⟨0, [], .slice none 0 0⟩], d, A, k, c, mkS (cutW rest.data.toList).1, mkS (cutW rest.data.toList).2, ⟨⟨v7, ActR.of _ (by kernel_rfl)⟩, ?_, ?_, fun h => ?_, rfl⟩, ?_, ?_⟩
 ·have := ajQl rest; have := HNr.out; omega
 ·exact H5.out.drew_ _
 ·intro it hi'
  rcases List.mem_append.1 hi' with hi' | hi'
  ·exact HKi.out it hi'
  ·simp at hi'; subst hi'; exact .inl rfl
 ·exact ajQn h
 ·rw [aaQn, aaQn, abQq]; exact HG2.out
 ·have := ajQl rest; have := HO.out; omega
end Go.Proofs.YtdhgiammfpjniaaGreatDoor.Ev
namespace Go.Proofs.YtdhgiammfpjniaaGreatDoor.Ev
set_option linter.unusedSimpArgs false
set_option linter.unusedVariables false
open Go.RowKit
theorem amQd {fn : Func} {t : Tmp} {e : TypeId} (h : fn.results = #[.cell t e]) (tmps : Array Value) {P : Program} {w : World} {ad : Addr} (hp : tmps[t]?.getD undef = .pointer (some ad)) :
 (results fn tmps).run P w = (loadVar e ad).run P w := by
 simp [results, h, hp, asAddr]
set_option maxHeartbeats 2000000 in
set_option maxRecDepth 1000000 in
theorem aqQp (text : ByteArray) (hs : text.size ≤ 4194304) (w0 : World) (TGT : Option Dep) (n : Nat) (S : Nat → Prop) (A' : Option Addr) (c' : Nat) (d : Dep) (A : Option Addr) (c : Nat) (word rest : ByteArray) (v7 : Value) (U : Nat → Value) (w : World)
 (HR : Hid (RSt w0 w S (.slice A' 0 c') [] (rowD d (.slice A d.args.length c)))) (HEm : Hid (word.data.toList = [] → rest.data.toList = []))
 (HL : Hid (Lay w S d (.slice A d.args.length c))) (HGo : Hid (TGT = readM [] (some d) (abQt word.data.toList rest.data.toList))) (HM : Hid (nodes d + remB word rest ≤ text.size)) : rB.wp Tryz.prog (jump2 (fun a' w' => ∃ m, m < n ∧ JA w0 text TGT m a' w') (fun a' w' => ∃ m, m < n ∧ JB w0 text TGT m a' w') (bodyPost Tryz.prog Tryz.f186 (aaQ0 w0 text TGT))) { tmps := #[.string text, U 1, .pointer (some ⟨w0.heap.size, 0, none⟩), .slice A' 0 c', .pointer (some ⟨w0.heap.size + 1, 0, none⟩), .string word, .string rest, v7, U 8, U 9, U 10, U 11, U 12, U 13, U 14, U 15, U 16, U 17, U 18, U 19, U 20, U 21, U 22, U 23, U 24, U 25, U 26, U 27, U 28, U 29, U 30, U 31, U 32, U 33, U 34, U 35, U 36, U 37, U 38, U 39, U 40, U 41, U 42, U 43, U 44, U 45, U 46, U 47, U 48, U 49, U 50, U 51, U 52, U 53, U 54, U 55, U 56, U 57, U 58, U 59, U 60, U 61, U 62, U 63, U 64, U 65, U 66, U 67, U 68, U 69, U 70, U 71, U 72, U 73, U 74, U 75, U 76, U 77, U 78, U 79, U 80, U 81, U 82, U 83, U 84, U 85, U 86, U 87, U 88, U 89, U 90, U 91, U 92, U 93, U 94, U 95, U 96, U 97, U 98, U 99, U 100, U 101, U 102, U 103, U 104, U 105, U 106, U 107, U 108, U 109, U 110, U 111, U 112, U 113, U 114, U 115, U 116, U 117, U 118, U 119, U 120, U 121, U 122, U 123, U 124, U 125, U 126, U 127, U 128], defers := [] } w := by
 have MY := hQQ agQm
 have MN := hQQ ahQf
 have d0 := HR.out.dblk.cell 0
 have d1 := HR.out.dblk.cell 1
 have d2 := HR.out.dblk.cell 2
 have d3 := HR.out.dblk.cell 3
 have d4 := HR.out.dblk.cell 4
 have r0 := HR.out.res.cell 0
 have r1 := HR.out.res.cell 1
 have r2 := HR.out.res.cell 2
 have r3 := HR.out.res.cell 3
 have r4 := HR.out.res.cell 4
 have f0 := HR.out.res.free 0
 have f1 := HR.out.res.free 1
 have f2 := HR.out.res.free 2
 have f3 := HR.out.res.free 3
 have f4 := HR.out.res.free 4
 unfold rowD at d0 d1 d2 d3 d4
 simp at d0 d1 d2 d3 d4 r0 r1 r2 r3 r4
 by_cases hw : word.data.toList = []
 ·have tw : (word.toList == []) = true := by have := acQe (aaQx hw); simpa using this
  have HP : Hid (∀ w', w' = ((((w.setCell ⟨w0.heap.size, 0, none⟩ (.int .i64 d.kind)).setCell ⟨w0.heap.size, 1, none⟩ (.string d.name)).setCell ⟨w0.heap.size, 2, none⟩ (.int .i64 d.op)).setCell ⟨w0.heap.size, 3, none⟩ (.string d.evr)).setCell ⟨w0.heap.size, 4, none⟩ (.slice A d.args.length c) → aaQ0 w0 text TGT (.returned (.agg (rowD d (.slice A d.args.length c)))) w') := by
   rintro w' rfl
   have hT : Turned [w0.heap.size] w (((((w.setCell ⟨w0.heap.size, 0, none⟩ (.int .i64 d.kind)).setCell ⟨w0.heap.size, 1, none⟩ (.string d.name)).setCell ⟨w0.heap.size, 2, none⟩ (.int .i64 d.op)).setCell ⟨w0.heap.size, 3, none⟩ (.string d.evr)).setCell ⟨w0.heap.size, 4, none⟩ (.slice A d.args.length c)) := (((((Turned.refl _ _).setCell (.inl (by simp)) _).setCell (.inl (by simp)) _).setCell (.inl (by simp)) _).setCell (.inl (by simp)) _).setCell (.inl (by simp)) _
   have hst : StayS S w (((((w.setCell ⟨w0.heap.size, 0, none⟩ (.int .i64 d.kind)).setCell ⟨w0.heap.size, 1, none⟩ (.string d.name)).setCell ⟨w0.heap.size, 2, none⟩ (.int .i64 d.op)).setCell ⟨w0.heap.size, 3, none⟩ (.string d.evr)).setCell ⟨w0.heap.size, 4, none⟩ (.slice A d.args.length c)) := StayS.turned hT fun b hb hg => by have := HR.out.base b hb; simp at hg; omega
   refine ⟨HR.out.below.trans (hT.below (fun k hk => by simp at hk; omega) HR.out.below.size), .inr ⟨d, .slice A d.args.length c, S, ?_, rfl, HL.out.stay (fun _ h => h) hst, HR.out.clean.stay hst, fun b hb => by have := HR.out.base b hb; omega, by have := HM.out; omega⟩⟩
   rw [HGo.out, hw, adQb, afQs, if_pos rfl]
  clear hw
  conv in rB => whnf
  go_wp2_with fail
  refine (MY.out _).mono ?_
  rintro e w2 ⟨rfl, rfl⟩
  have BW : Blk (((((w.setCell ⟨w0.heap.size, 0, none⟩ (.int .i64 d.kind)).setCell ⟨w0.heap.size, 1, none⟩ (.string d.name)).setCell ⟨w0.heap.size, 2, none⟩ (.int .i64 d.op)).setCell ⟨w0.heap.size, 3, none⟩ (.string d.evr)).setCell ⟨w0.heap.size, 4, none⟩ (.slice A d.args.length c)) w0.heap.size 39 (rowD d (.slice A d.args.length c)) := ((((HR.out.res.set_ 0 (.int .i64 d.kind)).set_ 1 (.string d.name)).set_ 2 (.int .i64 d.op)).set_ 3 (.string d.evr)).set_ 4 (.slice A d.args.length c)
  have HBW := hQQ BW
  clear BW
  go_wp2_with fail
  refine bodyPost_ret (v := .agg (rowD d (.slice A d.args.length c))) ?_ rfl (HP.out _ rfl)
  have b0 := HBW.out.cell 0
  have b1 := HBW.out.cell 1
  have b2 := HBW.out.cell 2
  have b3 := HBW.out.cell 3
  have b4 := HBW.out.cell 4
  clear HP HBW d0 d1 d2 d3 d4 r0 r1 r2 r3 r4 f0 f1 f2 f3 f4 tw
  generalize World.setCell _ ⟨w0.heap.size, 4, none⟩ _ = W at b0 b1 b2 b3 b4 ⊢
  unfold rowD at b0 b1 b2 b3 b4 ⊢
  simp at b0 b1 b2 b3 b4
  refine (amQd rfl _ (ad := ⟨w0.heap.size, 0, none⟩) rfl).trans ?_
  go_simp
 ·have tw : (word.toList == []) = false := by have := aaQr hw; simpa using this
  have HP : Hid (aaQ0 w0 text TGT (abQf 50) w) := by
   refine ⟨HR.out.below, .inl ⟨?_, rfl⟩⟩
   rw [HGo.out, abQc _ hw, afQs, if_neg (by simp)]
  clear hw
  conv in rB => whnf
  go_wp2_with fail
  refine (MN.out _).mono ?_
  rintro e w2 ⟨rfl, rfl⟩
  unfold abQf at HP ⊢
  go_wp2_with fail
  exact ⟨rfl, HP.out⟩
end Go.Proofs.YtdhgiammfpjniaaGreatDoor.Ev
