/- Parts of the proof. -/
import Derived.Test.YtdhgiammfpjniaaGreatDoorZrbb
import Derived.Test.YtdhgiammfpjniaaGreatDoorZrbc
namespace Go.Proofs.YtdhgiammfpjniaaGreatDoor.Ev
set_option linter.unusedSimpArgs false
set_option linter.unusedVariables false
open Go.RowKit
set_option maxHeartbeats 8000000 in
set_option maxRecDepth 1000000 in
theorem aqQm (text : ByteArray) (hs : text.size ≤ 4194304) (w0 : World) (TGT : Option Dep) (n : Nat) (S : Nat → Prop) (v : Value) (L : List OItem) (d : Dep) (A : Option Addr) (k c : Nat) (word rest : ByteArray) (v7 : Value) (U : Nat → Value) (w : World)
 (HR : Hid (RSt w0 w S v L (rowD d (.slice A k c)))) (HKi : Hid (∀ it ∈ L, it.k = 0 ∨ (2 ≤ it.k ∧ it.k ≤ 6))) (HEm : Hid (word.data.toList = [] → rest.data.toList = [])) (HN : Hid (n = remB word rest))
 (HGo : Hid (TGT = readM (stkOf L) none (abQt word.data.toList rest.data.toList))) (HM : Hid (openM L + remB word rest ≤ text.size))
 (HBeh : Hid (∀ m a w, m ≤ n → JB w0 text TGT m a w → rB.wp Tryz.prog (jump2 (fun a' w' => ∃ m, m < n ∧ JA w0 text TGT m a' w') (fun a' w' => ∃ m, m < n ∧ JB w0 text TGT m a' w') (bodyPost Tryz.prog Tryz.f186 (aaQ0 w0 text TGT))) a w)) (h40 : word.data.toList ≠ [40]) : rA.wp Tryz.prog (jump2 (fun a' w' => ∃ m, m < n ∧ JA w0 text TGT m a' w') (fun a' w' => ∃ m, m < n ∧ JB w0 text TGT m a' w') (bodyPost Tryz.prog Tryz.f186 (aaQ0 w0 text TGT))) { tmps := #[.string text, U 1, .pointer (some ⟨w0.heap.size, 0, none⟩), v, .pointer (some ⟨w0.heap.size + 1, 0, none⟩), .string word, .string rest, v7, U 8, U 9, U 10, U 11, U 12, U 13, U 14, U 15, U 16, U 17, U 18, U 19, U 20, U 21, U 22, U 23, U 24, U 25, U 26, U 27, U 28, U 29, U 30, U 31, U 32, U 33, U 34, U 35, U 36, U 37, U 38, U 39, U 40, U 41, U 42, U 43, U 44, U 45, U 46, U 47, U 48, U 49, U 50, U 51, U 52, U 53, U 54, U 55, U 56, U 57, U 58, U 59, U 60, U 61, U 62, U 63, U 64, U 65, U 66, U 67, U 68, U 69, U 70, U 71, U 72, U 73, U 74, U 75, U 76, U 77, U 78, U 79, U 80, U 81, U 82, U 83, U 84, U 85, U 86, U 87, U 88, U 89, U 90, U 91, U 92, U 93, U 94, U 95, U 96, U 97, U 98, U 99, U 100, U 101, U 102, U 103, U 104, U 105, U 106, U 107, U 108, U 109, U 110, U 111, U 112, U 113, U 114, U 115, U 116, U 117, U 118, U 119, U 120, U 121, U 122, U 123, U 124, U 125, U 126, U 127, U 128], defers := [] } w := by
 have CUT := hQQ (fun s h w => cutH s h w)
 have CL := hQQ (fun s h w => arQs s h w)
 have NS := hQQ (fun s w => numSH s w)
 have NAME := hQQ (agQl word w HR.out.tabs)
 have MY := hQQ agQm
 have MN := hQQ ahQf
 have t1 : (word.toList == [40]) = false := by have := aaQr h40; simpa using this
 have hM := HM.out
 have hrs : rest.size ≤ 4194304 := by unfold remB at hM; omega
 have hws : word.size ≤ 4194304 := by unfold remB at hM; omega
 clear hM
 conv in rA => whnf
 go_wp2_with fail
 refine NAME.out.mono ?_
 rintro e w1 ⟨rfl, hb1⟩
 have H1 := hQQ (HR.out.below_ hb1)
 clear hb1 NAME
 cases hn : nameB word.data.toList with
 | false =>
   have HP : Hid (aaQ0 w0 text TGT (abQf 50) w1) := by
    refine ⟨H1.out.below, .inl ⟨?_, rfl⟩⟩
    rw [HGo.out]
    by_cases hw : word.data.toList = []
    ·rw [hw, adQb, ahQ0]
    ·rw [abQc _ hw, aqQr _ _ h40 hn]
   clear hn
   go_wp2_with fail
   refine (MN.out _).mono ?_
   rintro e w2 ⟨rfl, rfl⟩
   unfold abQf at HP ⊢
   go_wp2_with fail
   exact ⟨rfl, HP.out⟩
 | true =>
   have HNB := hQQ hn
   clear hn
   go_wp2_with fail
   refine (MY.out _).mono ?_
   rintro e w2 ⟨rfl, rfl⟩
   go_wp2_with fail
   refine (CL.out word (by omega) _).mono ?_
   rintro e w3 ⟨rfl, hb3⟩
   have H3 := hQQ (H1.out.below_ hb3)
   clear hb3 H1
   have k0 := H3.out.dblk.cell 0
   have k1 := H3.out.dblk.cell 1
   have k2 := H3.out.dblk.cell 2
   have k3 := H3.out.dblk.cell 3
   have k4 := H3.out.dblk.cell 4
   have f0 := H3.out.dblk.free 0
   have f1 := H3.out.dblk.free 1
   have f2 := H3.out.dblk.free 2
   have f3 := H3.out.dblk.free 3
   have f4 := H3.out.dblk.free 4
   have H4 := hQQ (((((H3.out.setD 0 (.int .i64 1)).setD 1 (.string word)).setD 2 (.int .i64 0)).setD 3 (.string ⟨#[]⟩)).setD 4 (.slice none 0 0))
   clear H3
   unfold rowD at k0 k1 k2 k3 k4
   simp at k0 k1 k2 k3 k4
   go_wp2_with fail
   refine (CUT.out rest (by unfold maxLen; omega) _).mono ?_
   rintro e w5 ⟨a, b, HC, rfl, q5, rfl⟩
   have H5' := hQQ (H4.out.drew_ q5)
   generalize World.drewN _ q5 = W at H5' ⊢
   have H5 : Hid (RSt w0 W S v L #[.int .i64 1, .string word, .int .i64 0, .string ⟨#[]⟩, .slice none 0 0]) := by have := H5'.out; rw [row_all] at this; exact this
   clear H5' H4 k0 k1 k2 k3 k4 f0 f1 f2 f3 f4
   have s0 := H5.out.tabs.signs.cell 0
   have s1 := H5.out.tabs.signs.cell 1
   have s2 := H5.out.tabs.signs.cell 2
   have s3 := H5.out.tabs.signs.cell 3
   have s4 := H5.out.tabs.signs.cell 4
   have s5 := H5.out.tabs.signs.cell 5
   have s6 := H5.out.tabs.signs.cell 6
   have s7 := H5.out.tabs.signs.cell 7
   simp at s0 s1 s2 s3 s4 s5 s6 s7
   go_wp2_with fail
   refine (NS.out a _).mono ?_
   rintro e w6 ⟨o, HO, rfl, hb6⟩
   have H6 := hQQ (H5.out.below_ hb6)
   clear hb6 H5 s0 s1 s2 s3 s4 s5 s6 s7 NS
   have k2 := H6.out.dblk.cell 2
   have f2 := H6.out.dblk.free 2
   have H7 : Hid (RSt w0 (w6.setCell ⟨w0.heap.size + 1, 2, none⟩ (.int .i64 o)) S v L #[.int .i64 1, .string word, .int .i64 o, .string ⟨#[]⟩, .slice none 0 0]) := by have := H6.out.setD 2 (.int .i64 o); rw [row_two] at this; exact this
   have hr1 := HC.out.rem
   have hac : Hid (a.size ≤ 4194304 ∧ b.size ≤ 4194304) := by unfold remB at hr1; exact ⟨by omega, by omega⟩
   clear H6 hr1
   simp at k2
   by_cases hz : o = 0
   ·subst hz
    go_wp2_with fail
    go_step3
    rename_i K hK
    refine hK _ _ (HBeh.out (remB a b) _ _ ?_ ⟨S, v, L, .mk 1 word 0 ⟨#[]⟩ [], none, 0, a, b, ⟨⟨v7, ActR.of _ (by kernel_rfl)⟩, H7.out, HKi.out, HC.out.end_, rfl⟩, Lay.none_ _ _ _ _ _ _, ?_, ?_⟩)
    ·have := HC.out.rem; have := HN.out; unfold remB at *; omega
    ·have hw : word.data.toList ≠ [] := (adQo HNB.out).1
     rw [HGo.out, abQc _ hw, aiQa _ _ HNB.out (by rw [HC.out.words_, agQz]; exact HO.out.symm), HC.out.words_]
     rfl
    ·have h1 := HC.out.rem
     have h2 := HM.out
     have hw : word.data.toList ≠ [] := (adQo HNB.out).1
     have h3 : 1 ≤ word.size := by rw [← aaQd]; exact List.length_pos_iff.2 hw
     show openM L + (1 + 0) + remB a b ≤ text.size
     unfold remB at *
     omega
   ·have tz : (o == 0) = false := beq_eq_false_iff_ne.2 hz
    go_wp2_with fail
    refine (CUT.out b (by have := hac.out; unfold maxLen; omega) _).mono ?_
    rintro e w8 ⟨a2, b2, HC2, rfl, q8, rfl⟩
    have H8' := hQQ (H7.out.drew_ q8)
    generalize World.drewN _ q8 = W8 at H8' ⊢
    have H8 : Hid (RSt w0 W8 S v L #[.int .i64 1, .string word, .int .i64 o, .string ⟨#[]⟩, .slice none 0 0]) := H8'
    clear H8' H7 k2 f2
    have hr2 := HC2.out.rem
    have hac2 : Hid (a2.size ≤ 4194304 ∧ b2.size ≤ 4194304) := by have := hac.out; unfold remB at hr2; exact ⟨by omega, by omega⟩
    clear hr2
    go_wp2_with fail
    refine (CL.out a2 (by have := hac2.out; omega) _).mono ?_
    rintro e w9 ⟨rfl, hb9⟩
    have H9 := hQQ (H8.out.below_ hb9)
    clear hb9 H8
    have k3 := H9.out.dblk.cell 3
    have f3 := H9.out.dblk.free 3
    have H10 : Hid (RSt w0 (w9.setCell ⟨w0.heap.size + 1, 3, none⟩ (.string a2)) S v L #[.int .i64 1, .string word, .int .i64 o, .string a2, .slice none 0 0]) := by have := H9.out.setD 3 (.string a2); rw [aqQf] at this; exact this
    clear H9
    simp at k3
    go_wp2_with fail
    refine (CUT.out b2 (by have := hac2.out; unfold maxLen; omega) _).mono ?_
    rintro e w11 ⟨a3, b3, HC3, rfl, q11, rfl⟩
    have H11' := hQQ (H10.out.drew_ q11)
    generalize World.drewN _ q11 = W11 at H11' ⊢
    have H11 : Hid (RSt w0 W11 S v L #[.int .i64 1, .string word, .int .i64 o, .string a2, .slice none 0 0]) := H11'
    clear H11' H10 k3 f3
    go_wp2_with fail
    go_step3
    rename_i K hK
    refine hK _ _ (HBeh.out (remB a3 b3) _ _ ?_ ⟨S, v, L, .mk 1 word o a2 [], none, 0, a3, b3, ⟨⟨v7, ActR.of _ (by kernel_rfl)⟩, H11.out, HKi.out, HC3.out.end_, rfl⟩, Lay.none_ _ _ _ _ _ _, ?_, ?_⟩)
    ·have := HC.out.rem; have := HC2.out.rem; have := HC3.out.rem; have := HN.out; unfold remB at *; omega
    ·have hw : word.data.toList ≠ [] := (adQo HNB.out).1
     have ho := HO.out
     have ha : a.data.toList ≠ [] := fun e => hz (by rw [ho, e]; rfl)
     have hn2 : numS a.data.toList ≠ 0 := fun e => hz (by rw [ho, e])
     rw [HGo.out, abQc _ hw, HC.out.words_, abQc _ ha, ahQ8 _ _ HNB.out hn2, HC2.out.words_, agQz, alQ6 HC2.out.end_, HC3.out.words_, ← ho]
     rfl
    ·have h1 := HC.out.rem
     have h12 := HC2.out.rem
     have h13 := HC3.out.rem
     have h2 := HM.out
     have hw : word.data.toList ≠ [] := (adQo HNB.out).1
     have h3 : 1 ≤ word.size := by rw [← aaQd]; exact List.length_pos_iff.2 hw
     show openM L + (1 + 0) + remB a3 b3 ≤ text.size
     unfold remB at *
     omega
set_option maxHeartbeats 800000 in
set_option maxRecDepth 1000000 in
theorem aqQg (text : ByteArray) (hs : text.size ≤ 4194304) (w0 : World) (TGT : Option Dep) (n : Nat) (S : Nat → Prop) (ob co g c4 : Nat) (L : List OItem) (ik : Int) (ir : Rows5) (d : Dep) (A : Option Addr) (c : Nat) (word rest : ByteArray) (U : Nat → Value) (w : World)
 (HR : Hid (RSt w0 w S (.slice (some ⟨ob, 0, none⟩) (L.length + 1) co) (L ++ [⟨ik, ir ++ [(d, .slice A d.args.length c)], .slice (some ⟨g, 0, none⟩) (ir.length + 1) c4⟩]) (rowD d (.slice A d.args.length c)))) (HKi : Hid (∀ it ∈ L, it.k = 0 ∨ (2 ≤ it.k ∧ it.k ≤ 6))) (HEm : Hid (word.data.toList = [] → rest.data.toList = [])) (HN : Hid (n = remB word rest))
 (HGo : Hid (TGT = none)) (HM : Hid (openM L + (1 + aaQk (ir.map Prod.fst)) + nodes d + remB word rest ≤ text.size))
 (hk : ik = 0) (K : Act → World → Prop) : rH.wp Tryz.prog (Exit.then K (jump2 (fun a' w' => ∃ m, m < n ∧ JA w0 text TGT m a' w') (fun a' w' => ∃ m, m < n ∧ JB w0 text TGT m a' w') (bodyPost Tryz.prog Tryz.f186 (aaQ0 w0 text TGT)))) { tmps := #[.string text, U 1, .pointer (some ⟨w0.heap.size, 0, none⟩), .slice (some ⟨ob, 0, none⟩) (L.length + 1) co, .pointer (some ⟨w0.heap.size + 1, 0, none⟩), .string word, .string rest, .pointer (some ⟨ob, L.length * 5, none⟩), U 8, U 9, U 10, U 11, U 12, U 13, U 14, U 15, U 16, U 17, U 18, U 19, U 20, U 21, U 22, U 23, U 24, U 25, U 26, U 27, U 28, U 29, U 30, U 31, U 32, U 33, U 34, U 35, U 36, U 37, U 38, U 39, U 40, U 41, U 42, U 43, U 44, U 45, U 46, U 47, U 48, U 49, U 50, U 51, U 52, U 53, U 54, U 55, U 56, U 57, U 58, U 59, U 60, U 61, U 62, U 63, U 64, U 65, U 66, U 67, U 68, U 69, U 70, U 71, U 72, U 73, U 74, U 75, U 76, U 77, U 78, U 79, U 80, U 81, U 82, U 83, U 84, U 85, U 86, U 87, U 88, U 89, U 90, U 91, U 92, U 93, U 94, U 95, U 96, U 97, U 98, U 99, U 100, U 101, U 102, U 103, U 104, U 105, U 106, U 107, U 108, U 109, U 110, U 111, U 112, U 113, U 114, U 115, U 116, U 117, U 118, U 119, U 120, U 121, U 122, U 123, U 124, U 125, U 126, U 127, U 128], defers := [] } w := by
 have MN := hQQ ahQf
 obtain ⟨i0, i1, i2, i3, i4, ifr, ic1, ic2⟩ := acQ5 HR.out.own
 simp at i0 i1 i2 i3 i4
 clear ifr i1 i2 i3
 have HR1 : Hid (RSt w0 w.drew S (.slice (some ⟨ob, 0, none⟩) (L.length + 1) co) (L ++ [⟨ik, ir ++ [(d, .slice A d.args.length c)], .slice (some ⟨g, 0, none⟩) (ir.length + 1) c4⟩]) (rowD d (.slice A d.args.length c))) := HR.out.drew_ 1
 have HP : Hid (aaQ0 w0 text TGT (abQf 50) w.drew) := by
  refine ⟨HR1.out.below, .inl ⟨?_, rfl⟩⟩
  exact HGo.out
 clear HR HR1
 have tk3 : (ik != 0) = false := by rw [hk]; rfl
 clear hk
 conv in rH => whnf
 refine wp_region_still_tail 19 (by kernel_rfl) (by kernel_rfl) ?_
 simp only [List.take_succ_cons, List.take_zero, List.drop_succ_cons, List.drop_zero]
 still_step
 still_step
 still_step
 still_step
 still_step
 with_reducible refine wpStill_step (fun K hK0 => ?_)
 have hK := hQQ hK0
 clear hK0
 go_simp
 with_reducible refine hK.out _ ?_
 clear hK K
 with_reducible refine wpStill_step (fun K hK0 => ?_)
 have hK := hQQ hK0
 clear hK0
 go_simp
 with_reducible refine hK.out _ ?_
 clear hK K
 with_reducible refine wpStill_step (fun K hK0 => ?_)
 have hK := hQQ hK0
 clear hK0
 go_simp
 with_reducible refine hK.out _ ?_
 clear hK K
 with_reducible refine wpStill_step (fun K hK0 => ?_)
 have hK := hQQ hK0
 clear hK0
 go_simp
 with_reducible refine hK.out _ ?_
 clear hK K
 with_reducible refine wpStill_step (fun K hK0 => ?_)
 have hK := hQQ hK0
 clear hK0
 go_simp
 with_reducible refine hK.out _ ?_
 clear hK K
 with_reducible refine wpStill_step (fun K hK0 => ?_)
 have hK := hQQ hK0
 clear hK0
 go_simp
 with_reducible refine hK.out _ ?_
 clear hK K
 with_reducible refine wpStill_step (fun K hK0 => ?_)
 have hK := hQQ hK0
 clear hK0
 go_simp
 with_reducible refine hK.out _ ?_
 clear hK K
 with_reducible refine wpStill_step (fun K hK0 => ?_)
 have hK := hQQ hK0
 clear hK0
 go_simp
 with_reducible refine hK.out _ ?_
 clear hK K
 with_reducible refine wpStill_step (fun K hK0 => ?_)
 have hK := hQQ hK0
 clear hK0
 go_simp
 with_reducible refine hK.out _ ?_
 clear hK K
 with_reducible refine wpStill_step (fun K hK0 => ?_)
 have hK := hQQ hK0
 clear hK0
 go_simp
 with_reducible refine hK.out _ ?_
 clear hK K
 with_reducible refine wpStill_step (fun K hK0 => ?_)
 have hK := hQQ hK0
 clear hK0
 go_simp
 with_reducible refine hK.out _ ?_
 clear hK K
 with_reducible refine wpStill_step (fun K hK0 => ?_)
 have hK := hQQ hK0
 clear hK0
 go_simp
 with_reducible refine hK.out _ ?_
 clear hK K
 with_reducible refine wpStill_step (fun K hK0 => ?_)
 have hK := hQQ hK0
 clear hK0
 go_simp
 with_reducible refine hK.out _ ?_
 clear hK K
 with_reducible refine wpStill_step (fun K hK0 => ?_)
 have hK := hQQ hK0
 clear hK0
 go_simp
 with_reducible refine hK.out _ ?_
 clear hK K
 refine wpStill_nil ?_
 change wpList _ _ _ _ _ w.drew
 generalize w.drew = W at HP ⊢
 clear i0 i4
 go_wp2_with fail
 refine (MN.out _).mono ?_
 rintro e w2 ⟨rfl, rfl⟩
 unfold abQf at HP ⊢
 go_wp2_with fail
 exact ⟨rfl, HP.out⟩
end Go.Proofs.YtdhgiammfpjniaaGreatDoor.Ev
namespace Go.Proofs.YtdhgiammfpjniaaGreatDoor.Ev
set_option linter.unusedSimpArgs false
set_option linter.unusedVariables false
open Go.RowKit
set_option maxHeartbeats 2000000 in
set_option maxRecDepth 1000000 in
theorem aqQo (text : ByteArray) (hs : text.size ≤ 4194304) (w0 : World) (TGT : Option Dep) (n : Nat) (S : Nat → Prop) (ob co g c4 : Nat) (L : List OItem) (ik : Int) (ir : Rows5) (d : Dep) (A : Option Addr) (c : Nat) (word rest : ByteArray) (U : Nat → Value) (w : World)
 (HR : Hid (RSt w0 w S (.slice (some ⟨ob, 0, none⟩) (L.length + 1) co) (L ++ [⟨ik, ir ++ [(d, .slice A d.args.length c)], .slice (some ⟨g, 0, none⟩) (ir.length + 1) c4⟩]) (rowD d (.slice A d.args.length c)))) (HKi : Hid (∀ it ∈ L, it.k = 0 ∨ (2 ≤ it.k ∧ it.k ≤ 6))) (HKk : Hid (ik = 0 ∨ (2 ≤ ik ∧ ik ≤ 6))) (HEm : Hid (word.data.toList = [] → rest.data.toList = [])) (HN : Hid (n = remB word rest))
 (HGo : Hid (TGT = readM ((ik, ir.map Prod.fst) :: stkOf L) (some d) (abQt word.data.toList rest.data.toList))) (HM : Hid (openM L + (1 + aaQk (ir.map Prod.fst)) + nodes d + remB word rest ≤ text.size))
 (HD : Hid (∀ a w' k', (2 ≤ k' ∧ k' ≤ 6) → k' = (if ik = 0 then numW word.data.toList else ik) → ActR text w0.heap.size (w0.heap.size + 1) (.slice (some ⟨ob, 0, none⟩) (L.length + 1) co) word rest (.pointer (some ⟨ob, L.length * 5, none⟩)) a → RSt w0 w' S (.slice (some ⟨ob, 0, none⟩) (L.length + 1) co) (L ++ [⟨k', ir ++ [(d, .slice A d.args.length c)], .slice (some ⟨g, 0, none⟩) (ir.length + 1) c4⟩]) (rowD d (.slice A d.args.length c)) → ∀ K : Act → World → Prop, (∀ a w, rT.wp Tryz.prog (jump2 (fun a' w' => ∃ m, m < n ∧ JA w0 text TGT m a' w') (fun a' w' => ∃ m, m < n ∧ JB w0 text TGT m a' w') (bodyPost Tryz.prog Tryz.f186 (aaQ0 w0 text TGT))) a w → K a w) → rH.wp Tryz.prog (Exit.then K (jump2 (fun a' w' => ∃ m, m < n ∧ JA w0 text TGT m a' w') (fun a' w' => ∃ m, m < n ∧ JB w0 text TGT m a' w') (bodyPost Tryz.prog Tryz.f186 (aaQ0 w0 text TGT)))) a w'))
 (HZ : Hid (∀ a w', 0 = (if ik = 0 then numW word.data.toList else ik) → ActR text w0.heap.size (w0.heap.size + 1) (.slice (some ⟨ob, 0, none⟩) (L.length + 1) co) word rest (.pointer (some ⟨ob, L.length * 5, none⟩)) a → RSt w0 w' S (.slice (some ⟨ob, 0, none⟩) (L.length + 1) co) (L ++ [⟨0, ir ++ [(d, .slice A d.args.length c)], .slice (some ⟨g, 0, none⟩) (ir.length + 1) c4⟩]) (rowD d (.slice A d.args.length c)) → ∀ K : Act → World → Prop, rH.wp Tryz.prog (Exit.then K (jump2 (fun a' w' => ∃ m, m < n ∧ JA w0 text TGT m a' w') (fun a' w' => ∃ m, m < n ∧ JB w0 text TGT m a' w') (bodyPost Tryz.prog Tryz.f186 (aaQ0 w0 text TGT)))) a w'))
 (h41 : word.data.toList ≠ [41]) : rC.wp Tryz.prog (jump2 (fun a' w' => ∃ m, m < n ∧ JA w0 text TGT m a' w') (fun a' w' => ∃ m, m < n ∧ JB w0 text TGT m a' w') (bodyPost Tryz.prog Tryz.f186 (aaQ0 w0 text TGT))) { tmps := #[.string text, U 1, .pointer (some ⟨w0.heap.size, 0, none⟩), .slice (some ⟨ob, 0, none⟩) (L.length + 1) co, .pointer (some ⟨w0.heap.size + 1, 0, none⟩), .string word, .string rest, .pointer (some ⟨ob, L.length * 5, none⟩), U 8, U 9, U 10, U 11, U 12, U 13, U 14, U 15, U 16, U 17, U 18, U 19, U 20, U 21, U 22, U 23, U 24, U 25, U 26, U 27, U 28, U 29, U 30, U 31, U 32, U 33, U 34, U 35, U 36, U 37, U 38, U 39, U 40, U 41, U 42, U 43, U 44, U 45, U 46, U 47, U 48, U 49, U 50, U 51, U 52, U 53, U 54, U 55, U 56, U 57, U 58, U 59, U 60, U 61, U 62, U 63, U 64, U 65, U 66, U 67, U 68, U 69, U 70, U 71, U 72, U 73, U 74, U 75, U 76, U 77, U 78, U 79, U 80, U 81, U 82, U 83, U 84, U 85, U 86, U 87, U 88, U 89, U 90, U 91, U 92, U 93, U 94, U 95, U 96, U 97, U 98, U 99, U 100, U 101, U 102, U 103, U 104, U 105, U 106, U 107, U 108, U 109, U 110, U 111, U 112, U 113, U 114, U 115, U 116, U 117, U 118, U 119, U 120, U 121, U 122, U 123, U 124, U 125, U 126, U 127, U 128], defers := [] } w := by
 have NW := hQQ (fun s w => numWH s w)
 obtain ⟨i0, i1, i2, i3, i4, ifr, ic1, ic2⟩ := acQ5 HR.out.own
 have if0 := ifr (L.length * 5)
 simp at i0 i1 i2 i3 i4
 clear ifr i1 i2 i3
 have t41 : (word.toList == [41]) = false := by have := aaQr h41; simpa using this
 by_cases hz : ik = 0
 ·subst hz
  have s0 := HR.out.tabs.words.cell 0
  have s1 := HR.out.tabs.words.cell 1
  have s2 := HR.out.tabs.words.cell 2
  have s3 := HR.out.tabs.words.cell 3
  have s4 := HR.out.tabs.words.cell 4
  have s5 := HR.out.tabs.words.cell 5
  have s6 := HR.out.tabs.words.cell 6
  have s7 := HR.out.tabs.words.cell 7
  simp at s0 s1 s2 s3 s4 s5 s6 s7
  conv in rC => whnf
  go_wp2_with fail
  refine (NW.out word _).mono ?_
  rintro e w6 ⟨k', HK', rfl, hb6⟩
  have H6 := hQQ (HR.out.below_ hb6)
  clear hb6 HR s0 s1 s2 s3 s4 s5 s6 s7 NW i0 i4 if0
  obtain ⟨i0, _, _, _, _, ifr, _, _⟩ := acQ5 H6.out.own
  have if0 := ifr (L.length * 5)
  clear ifr
  simp at i0
  have H7 := hQQ (H6.out.setK k')
  clear H6
  go_wp2_with fail
  rename_i K hK
  by_cases hk0 : k' = 0
  ·subst hk0
   exact HZ.out _ _ (by first | exact HK'.out.trans (if_pos rfl).symm | exact HK'.out.trans (if_pos trivial).symm | (simp; exact HK'.out)) (ActR.of _ (by kernel_rfl)) H7.out K
  ·exact HD.out _ _ k' (by have h1 := HK'.out; rcases afQw word.data.toList with h | h; exact absurd (h1.trans h) hk0; rw [h1]; exact h) (by first | exact HK'.out.trans (if_pos rfl).symm | exact HK'.out.trans (if_pos trivial).symm | (simp; exact HK'.out)) (ActR.of _ (by kernel_rfl)) H7.out K hK
 ·have tk : (ik == 0) = false := beq_eq_false_iff_ne.2 hz
  conv in rC => whnf
  go_wp2_with fail
  rename_i K hK
  exact HD.out _ _ ik (by rcases HKk.out with h | h; exact absurd h hz; exact h) (by rw [if_neg hz]) (ActR.of _ (by kernel_rfl)) HR.out K hK
end Go.Proofs.YtdhgiammfpjniaaGreatDoor.Ev
namespace Go.Proofs.YtdhgiammfpjniaaGreatDoor.Ev
set_option linter.unusedSimpArgs false
set_option linter.unusedVariables false
open Go.RowKit
theorem aqQj (text : ByteArray) (hs : text.size ≤ 4194304) (w0 : World) (TGT : Option Dep) (n : Nat) (S : Nat → Prop) (ob co g c4 : Nat) (L : List OItem) (ik : Int) (ir : Rows5) (d : Dep) (A : Option Addr) (c : Nat) (word rest : ByteArray) (w : World)
 (HR : Hid (RSt w0 w S (.slice (some ⟨ob, 0, none⟩) (L.length + 1) co) (L ++ [⟨ik, ir ++ [(d, .slice A d.args.length c)], .slice (some ⟨g, 0, none⟩) (ir.length + 1) c4⟩]) (rowD d (.slice A d.args.length c)))) (HKi : Hid (∀ it ∈ L, it.k = 0 ∨ (2 ≤ it.k ∧ it.k ≤ 6))) (HKk : Hid (ik = 0 ∨ (2 ≤ ik ∧ ik ≤ 6))) (HEm : Hid (word.data.toList = [] → rest.data.toList = [])) (HN : Hid (n = remB word rest))
 (HGo : Hid (TGT = readM ((ik, ir.map Prod.fst) :: stkOf L) (some d) (abQt word.data.toList rest.data.toList))) (HM : Hid (openM L + (1 + aaQk (ir.map Prod.fst)) + nodes d + remB word rest ≤ text.size)) (a : Act) (ha : ActR text w0.heap.size (w0.heap.size + 1) (.slice (some ⟨ob, 0, none⟩) (L.length + 1) co) word rest (.pointer (some ⟨ob, L.length * 5, none⟩)) a) : rC.wp Tryz.prog (jump2 (fun a' w' => ∃ m, m < n ∧ JA w0 text TGT m a' w') (fun a' w' => ∃ m, m < n ∧ JB w0 text TGT m a' w') (bodyPost Tryz.prog Tryz.f186 (aaQ0 w0 text TGT))) a w := by
 obtain ⟨U, rfl⟩ := ha
 by_cases h41 : word.data.toList = [41]
 ·exact aoQ1 text hs w0 TGT n S ob co g c4 L ik ir d (.slice A d.args.length c) word rest U w (rowD d (.slice A d.args.length c)) _ _ _ _ _ rfl HR HKi HKk HEm HN HGo HM h41
 ·refine aqQo text hs w0 TGT n S ob co g c4 L ik ir d A c word rest U w HR HKi HKk HEm HN HGo HM ?_ ?_ h41
  ·intro a w' k' hk hk' ha HR' K hK
   obtain ⟨U', rfl⟩ := ha
   refine aqQn text hs w0 TGT n S ob co g c4 L k' ir d A c word rest U' w' HR' HKi HEm HN ?_ HM hk K hK
   show TGT = _
   rw [HGo.out]
   by_cases hw : word.data.toList = []
   ·rw [hw, adQb, aiQb, if_neg (fun e => (anQ7 hk.1 hk.2).2.2.1 e.symm)]
   ·rw [abQc _ hw, afQr _ _ _ _ h41 hk', List.length_map]
    have h0 : k' ≠ 0 := by omega
    simp [h0]
  ·intro a w' h0 ha HR' K
   obtain ⟨U', rfl⟩ := ha
   refine aqQg text hs w0 TGT n S ob co g c4 L 0 ir d A c word rest U' w' HR' HKi HEm HN ?_ HM rfl K
   show TGT = _
   rw [HGo.out]
   by_cases hw : word.data.toList = []
   ·rw [hw, adQb, aiQb]
   ·rw [abQc _ hw, afQr _ _ _ _ h41 h0, if_neg (fun e => e.1 rfl)]
theorem amQr (text : ByteArray) (hs : text.size ≤ 4194304) (w0 : World) (TGT : Option Dep) (n : Nat) (a : Act) (w : World) (hJ : JB w0 text TGT n a w) : rB.wp Tryz.prog (jump2 (fun a' w' => ∃ m, m < n ∧ JA w0 text TGT m a' w') (fun a' w' => ∃ m, m < n ∧ JB w0 text TGT m a' w') (bodyPost Tryz.prog Tryz.f186 (aaQ0 w0 text TGT))) a w := by
 obtain ⟨S, v, L, d, A, c, word, rest, ⟨⟨v7, U, rfl⟩, H, HK, HE, HN⟩, HL, HG, HM⟩ := hJ
 rcases List.eq_nil_or_concat L with rfl | ⟨L0, it, hL0⟩
 ·obtain ⟨A', c', rfl, _, _⟩ := aaQc H.own
  exact aqQp text hs w0 TGT n S A' c' d A c word rest v7 U w H HE HL HG (show _ ≤ _ by simpa [openM] using HM)
 ·rw [List.concat_eq_append] at hL0
  subst hL0
  obtain ⟨ob, co, rfl⟩ : ∃ ob co, v = .slice (some ⟨ob, 0, none⟩) (L0.length + 1) co := by
   rcases H.own.2 with ⟨_, h2⟩ | ⟨g', cap, cur, h1, _⟩
   ·simp at h2
   ·exact ⟨g', cap, by rw [h1]; simp⟩
  obtain ⟨ik, ir, is⟩ := it
  obtain ⟨iA, ic, hs', _, _⟩ := aaQc (H.args ⟨ik, ir, is⟩ (by simp)).1
  simp only at hs'
  subst hs'
  have hM2 : openM L0 + (1 + aaQk (ir.map Prod.fst)) + nodes d + remB word rest ≤ text.size := by
   have : openM (L0 ++ [(⟨ik, ir, .slice iA ir.length ic⟩ : OItem)]) = openM L0 + (1 + aaQk (ir.map Prod.fst)) := aeQh L0 _
   rw [this] at HM
   exact HM
  have hG2 : TGT = readM ((ik, ir.map Prod.fst) :: stkOf L0) (some d) (abQt word.data.toList rest.data.toList) := by
   rw [HG, afQo]
  exact read_in text hs w0 TGT n S ob co L0 ik ir iA ic d A c word rest v7 U w H HK HE HN HL HG HM (fun g c4 a w' ha HR' => aqQj text hs w0 TGT n S ob co g c4 L0 ik ir d A c word rest w' HR' (fun it h => HK it (by simp [h])) (HK ⟨ik, ir, .slice iA ir.length ic⟩ (by simp)) HE HN hG2 hM2 a ha)
theorem aoQ2 (text : ByteArray) (hs : text.size ≤ 4194304) (w0 : World) (TGT : Option Dep) (n : Nat) (a : Act) (w : World) (HB : ∀ m a w, m ≤ n → JB w0 text TGT m a w → rB.wp Tryz.prog (jump2 (fun a' w' => ∃ m, m < n ∧ JA w0 text TGT m a' w') (fun a' w' => ∃ m, m < n ∧ JB w0 text TGT m a' w') (bodyPost Tryz.prog Tryz.f186 (aaQ0 w0 text TGT))) a w) (hJ : JA w0 text TGT n a w) : rA.wp Tryz.prog (jump2 (fun a' w' => ∃ m, m < n ∧ JA w0 text TGT m a' w') (fun a' w' => ∃ m, m < n ∧ JB w0 text TGT m a' w') (bodyPost Tryz.prog Tryz.f186 (aaQ0 w0 text TGT))) a w := by
 obtain ⟨S, v, L, d, A, k, c, word, rest, ⟨⟨v7, U, rfl⟩, H, HK, HE, HN⟩, HG, HM⟩ := hJ
 by_cases h40 : word.data.toList = [40]
 ·exact aqQk text hs w0 TGT n S v L d A k c word rest v7 U w H HK HE HN HG HM h40
 ·exact aqQm text hs w0 TGT n S v L d A k c word rest v7 U w H HK HE HN HG HM HB h40
set_option maxHeartbeats 400000 in
set_option maxRecDepth 1000000 in
theorem read_any (text : ByteArray) (hs : text.size ≤ 4194304) (w0 : World) (hT : Tabs w0) : Calls Tryz.prog 186 #[.string text] w0 (aaQ0 w0 text (readM [] none (words text.data.toList))) := by
 obtain ⟨TGT, hTGT⟩ : ∃ T, T = readM [] none (words text.data.toList) := ⟨_, rfl⟩
 rw [← hTGT]
 have HTGT := hQQ hTGT
 have HT := hQQ hT
 clear hTGT hT
 go_enter Tryz.func186, Tryz.ntmps186
 go_wp2_with fail
 generalize hc : Code.scope _ = cc
 have h2 : cc = Code.scope rdScope := by rw [← hc]; kernel_rfl
 rw [h2]
 clear hc h2 cc
 refine aiQs hrA hrB (JA w0 text TGT) (JB w0 text TGT) ?_ ?_ ?_
 ·exact fun n a w h => amQr text hs w0 TGT n a w h
 ·exact fun HB n a w h => aoQ2 text hs w0 TGT n a w (fun m a w hm h => HB n m a w hm h) h
 ·exact fun H => aoQ0 text hs w0 HT TGT HTGT H
end Go.Proofs.YtdhgiammfpjniaaGreatDoor.Ev
