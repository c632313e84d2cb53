/- What rpm says of two texts: compareRpm. Comparing texts and releases. Two versions but for their releases: compareVersions. Two versions compared: Compare. -/
import Derived.Test.YtpmfmkpfjomgnaaGreatDoorZba
/- What rpm says of two texts: compareRpm. -/
namespace Go.Proofs.YtpmfmkpfjomgnaaGreatDoor
set_option linter.unusedSimpArgs false
set_option linter.unusedVariables false
open Go.RowKit

/-- The two texts' rest in memory, which compare as the whole did. -/
def TwoR (w0 : World) (a0 b0 : ByteArray) (w : World) : Prop :=
  ∃ a b : ByteArray, Blk w w0.heap.size 9 #[.string a] ∧ Blk w (w0.heap.size + 1) 9 #[.string b] ∧ a.size ≤ maxLen ∧ b.size ≤ maxLen ∧ cmpRpm a.data.toList b.data.toList = cmpRpm a0.data.toList b0.data.toList ∧ Below w0.heap.size w0 w
def JR (w0 : World) (a0 b0 : ByteArray) (act : Act) (w : World) : Prop :=
  TwoR w0 a0 b0 w ∧ ∃ u4 u6 u7 u8 u9 u10 u11 u12 u13 u14 u15 u16 u17 u18 u19 u20 u21 u22 u23 u24 u25 u26 u27 u28 u29 u30 u31 u32 u33 u34 u35 u36 u37 u38 u39 u40 u41 u42 u43 u44 u45 u46 u47 u48 u49 u50 u51 u52 u53 u54 u55 u56 u57 u58 u59 : Value, act = { tmps := #[.string a0, .string b0, .pointer (some ⟨w0.heap.size, 0, none⟩), .pointer (some ⟨w0.heap.size + 1, 0, none⟩), u4, .func (.func 228) #[] #[.pointer (some ⟨w0.heap.size, 0, none⟩), .pointer (some ⟨w0.heap.size + 1, 0, none⟩)], u6, u7, u8, u9, u10, u11, u12, u13, u14, u15, u16, u17, u18, u19, u20, u21, u22, u23, u24, u25, u26, u27, u28, u29, u30, u31, u32, u33, u34, u35, u36, u37, u38, u39, u40, u41, u42, u43, u44, u45, u46, u47, u48, u49, u50, u51, u52, u53, u54, u55, u56, u57, u58, u59], defers := [] }
def PostR (w0 : World) (a0 b0 : ByteArray) (e : Ending) (w : World) : Prop := e = .returned (.int .i64 (cmpRpm a0.data.toList b0.data.toList)) ∧ Below w0.heap.size w0 w

set_option maxHeartbeats 8000000 in
set_option maxRecDepth 100000 in
theorem rpm_any (a0 b0 : ByteArray) (ha0 : a0.size ≤ maxLen) (hb0 : b0.size ≤ maxLen) (w0 : World) :
    Calls Tryz.prog 215 #[.string a0, .string b0] w0 (PostR w0 a0 b0) := by
  go_enter Tryz.func215, Tryz.ntmps215
  go_wp2_with fail
  refine wp_scope_label 0 (JR w0 a0 b0) (fun _ w => lenAt w ⟨w0.heap.size, 0, none⟩ + lenAt w ⟨w0.heap.size + 1, 0, none⟩) rfl ?pass ?first
  case first =>
    intro H
    have HH := Lib.hid H
    clear H
    go_wp2_with fail
    go_step3
    rename_i K hK
    have B0 := (Blk.new w0 9 #[.string a0]).alloc (.cells #[.string b0] 9)
    have B1 := Blk.new' (w := w0.alloc (.cells #[.string a0] 9)) (g := w0.heap.size + 1) (t := 9) (cs := #[.string b0]) (by simp)
    refine hK _ _ (HH.out _ _ ⟨⟨a0, b0, B0, B1, ha0, hb0, rfl, ((Below.refl _ _).alloc (Nat.le_refl _) _).alloc (by simp) _⟩, ?_⟩)
    exact ⟨_, _, _, _, _, _, _, _, _, _, _, _, _, _, _, _, _, _, _, _, _, _, _, _, _, _, _, _, _, _, _, _, _, _, _, _, _, _, _, _, _, _, _, _, _, _, _, _, _, _, _, _, _, _, _, rfl⟩
  case pass =>
    rintro act w ⟨⟨sa, sb, hA, hB, ha, hb, hc, hbel⟩, u4, u6, u7, u8, u9, u10, u11, u12, u13, u14, u15, u16, u17, u18, u19, u20, u21, u22, u23, u24, u25, u26, u27, u28, u29, u30, u31, u32, u33, u34, u35, u36, u37, u38, u39, u40, u41, u42, u43, u44, u45, u46, u47, u48, u49, u50, u51, u52, u53, u54, u55, u56, u57, u58, u59, rfl⟩
    have hlt := hB.lt
    have CR := Lib.hid (restR_any w0.heap.size (w0.heap.size + 1) sa sb w (by simp) hA hB ha hb)
    have HC := Lib.hid hc
    have LA := Lib.hid (lenAt_of (hA.cell 0))
    have LB := Lib.hid (lenAt_of (hB.cell 0))
    have hsz := hbel.size
    have mono : ∀ (w1 : World), Turned [w0.heap.size, w0.heap.size + 1] w w1 → Below w0.heap.size w0 w1 := fun _ h => hbel.trans (h.below (fun k hk => by simp at hk; omega) hsz)
    have HM := Lib.hid mono
    clear mono hA hB hc hbel
    unfold maxLen at ha hb
    unfold RestR at CR
    by_cases hr : rankR (strip sa.data.toList) = rankR (strip sb.data.toList)
    · rcases rank_kinds sa.data.toList with hk | hk | hk | hk | hk
      · have hk2 : rankR (strip sb.data.toList) = 0 ∨ rankR (strip sb.data.toList) = 2 := .inl (hr ▸ hk)
        obtain ⟨e1, e2, e3⟩ := rpm_tail hr hk2
        have HX := Lib.hid (HC.out.symm.trans e1)
        have E2 := Lib.hid e2
        have E3 := Lib.hid e3
        rw [hk] at hr
        rw [← hr, hk] at CR
        clear hr hk hk2 e1 e2 e3
        go_wp2_with fail
        refine CR.out.mono ?_
        rintro e w1 ⟨rfl, a, b, ea, eb, hA1, hB1, ht1⟩
        have HW1 := Lib.hid (HM.out _ ht1)
        have hlt1 := hB1.lt
        have SA : a.size ≤ sa.size := by rw [← size_len, ← size_len, ea]; exact strip_le _
        have SB : b.size ≤ sb.size := by rw [← size_len, ← size_len, eb]; exact strip_le _
        have HA1 := Lib.hid hA1
        have HB1 := Lib.hid hB1
        have EA := Lib.hid ea
        have EB := Lib.hid eb
        have c0 : w1.cell? ⟨w0.heap.size, 0, none⟩ = some (.string a) := hA1.cell 0
        have c1 : w1.cell? ⟨w0.heap.size + 1, 0, none⟩ = some (.string b) := hB1.cell 0
        have f0 := hA1.free 0
        have f1 := hB1.free 0
        clear hA1 hB1 ea eb ht1
        have ia : (1 : Int) ≤ (a.size : Int) := by
          have : 0 < a.size := by rw [← size_len, EA.out]; exact List.length_pos_iff.2 E2.out
          omega
        have ib : (1 : Int) ≤ (b.size : Int) := by
          have : 0 < b.size := by rw [← size_len, EB.out]; exact List.length_pos_iff.2 E3.out
          omega
        go_wp2_with fail
        refine wp_region_S (Till [(4, ⟨w0.heap.size, 0, none⟩, .string a), (5, ⟨w0.heap.size + 1, 0, none⟩, .string b)]) (by kernel_rfl) (Till.two c0 c1) (fun hS => ?_)
        refine wpAnyS_take (i := 0) (fun w' => w'.cell? ⟨w0.heap.size, 0, none⟩ = some (.string a)) (v := .string a) rfl (by kernel_rfl) (by kernel_rfl) (by kernel_rfl) (fun _ _ _ h => h) (fun l w hw hS => hS.out (k := 4) (by simp) (hw 4 (by kernel_rfl))) (Till.io rfl) (by kernel_rfl) hS (fun w' hSw => ?_) (by rfl) (fun hS => ?_)
        · go_simp
        try simp only [Act.put, List.setIfInBounds_toArray, List.set_cons_zero, List.set_cons_succ]
        refine wpAnyS_take (i := 2) (fun w' => w'.cell? ⟨w0.heap.size + 1, 0, none⟩ = some (.string b)) (v := .string b) rfl (by kernel_rfl) (by kernel_rfl) (by kernel_rfl) (fun _ _ _ h => h) (fun l w hw hS => hS.out (k := 5) (by simp) (hw 5 (by kernel_rfl))) (Till.io rfl) (by kernel_rfl) hS (fun w' hSw => ?_) (by rfl) (fun hS => ?_)
        · go_simp
        try simp only [Act.put, List.setIfInBounds_toArray, List.set_cons_zero, List.set_cons_succ]
        refine wpAnyS_take (i := 1) (fun _ => True) (v := .string (a.extract 1 a.size)) rfl (by kernel_rfl) (by kernel_rfl) (by kernel_rfl) (fun _ _ _ h => h) (fun _ _ _ _ => trivial) (Till.io rfl) (by kernel_rfl) hS (fun w' hSw => ?_) (by rfl) (fun hS => ?_)
        · go_simp
        try simp only [Act.put, List.setIfInBounds_toArray, List.set_cons_zero, List.set_cons_succ]
        refine wpAnyS_take (i := 3) (fun _ => True) (v := .string (b.extract 1 b.size)) rfl (by kernel_rfl) (by kernel_rfl) (by kernel_rfl) (fun _ _ _ h => h) (fun _ _ _ _ => trivial) (Till.io rfl) (by kernel_rfl) hS (fun w' hSw => ?_) (by rfl) (fun hS => ?_)
        · go_simp
        try simp only [Act.put, List.setIfInBounds_toArray, List.set_cons_zero, List.set_cons_succ]
        refine wpAnyS_one (i := 4) (by kernel_rfl) rfl (fun K hK => ?_)
        go_simp
        refine hK.out _ _ (hS.store1 (of_decide_eq_true (by kernel_rfl)) (by decide) (World.cell?_setCell_far _ _ _ _ (by simp))) (fun hS => ?_)
        clear hK K
        try simp only [Act.put, List.setIfInBounds_toArray, List.set_cons_zero, List.set_cons_succ]
        refine wpAnyS_one (i := 5) (by kernel_rfl) rfl (fun K hK => ?_)
        go_simp
        refine hK.out _ _ (Till.store2 (by kernel_rfl) (of_decide_eq_true (by kernel_rfl))) (fun hS => ?_)
        clear hK K
        try simp only [Act.put, List.setIfInBounds_toArray, List.set_cons_zero, List.set_cons_succ]
        refine wpAnyS_done (by kernel_rfl) ?_ _
        clear hS
        have BA : Blk ((w1.setCell ⟨w0.heap.size, 0, none⟩ (.string (a.extract 1 a.size))).setCell ⟨w0.heap.size + 1, 0, none⟩ (.string (b.extract 1 b.size))) w0.heap.size 9 #[.string (a.extract 1 a.size)] := (HA1.out.set_ 0 _).far (by simp) _
        have BB : Blk ((w1.setCell ⟨w0.heap.size, 0, none⟩ (.string (a.extract 1 a.size))).setCell ⟨w0.heap.size + 1, 0, none⟩ (.string (b.extract 1 b.size))) (w0.heap.size + 1) 9 #[.string (b.extract 1 b.size)] := (HB1.out.far (by simp) _).set_ 0 _
        have HT : Hid (Below w0.heap.size w0 ((w1.setCell ⟨w0.heap.size, 0, none⟩ (.string (a.extract 1 a.size))).setCell ⟨w0.heap.size + 1, 0, none⟩ (.string (b.extract 1 b.size)))) := (HW1.out.setCell (by simp) _).setCell (by simp) _
        generalize ((w1.setCell ⟨w0.heap.size, 0, none⟩ (.string (a.extract 1 a.size))).setCell ⟨w0.heap.size + 1, 0, none⟩ (.string (b.extract 1 b.size))) = w2 at *
        have LA2 := Lib.hid (lenAt_of (BA.cell 0))
        have LB2 := Lib.hid (lenAt_of (BB.cell 0))
        clear c0 c1 f0 f1
        go_wp2_with fail
        go_step3
        refine ⟨rfl, ⟨⟨_, _, BA, BB, ?_, ?_, ?_, HT.out.drew⟩, _, _, _, _, _, _, _, _, _, _, _, _, _, _, _, _, _, _, _, _, _, _, _, _, _, _, _, _, _, _, _, _, _, _, _, _, _, _, _, _, _, _, _, _, _, _, _, _, _, _, _, _, _, _, _, rfl⟩, ?_⟩
        · simp; unfold maxLen; omega
        · simp; unfold maxLen; omega
        · rw [bl_from, bl_from, List.drop_one, List.drop_one, EA.out, EB.out]; exact HX.out.symm
        · show lenAt w2 _ + lenAt w2 _ < _
          rw [LA.out, LB.out, LA2.out, LB2.out]; simp; omega
      · have hrb : rankR (strip sb.data.toList) = 1 := hr ▸ hk
        have HX := Lib.hid (HC.out.symm.trans (rpm_end hk hrb))
        rw [hk, hrb] at CR
        clear hr hk hrb HC
        go_wp2_with fail
        refine CR.out.mono ?_
        rintro e w1 ⟨rfl, a, b, ea, eb, hA1, hB1, ht1⟩
        have HW1 := Lib.hid (HM.out _ ht1)
        clear hA1 hB1 ht1 ea eb
        go_wp2_with fail
        simp only [Exit.jump]
        go_ret
        exact ⟨by rw [HX.out]; rfl, HW1.out⟩
      · have hk2 : rankR (strip sb.data.toList) = 0 ∨ rankR (strip sb.data.toList) = 2 := .inr (hr ▸ hk)
        obtain ⟨e1, e2, e3⟩ := rpm_tail hr hk2
        have HX := Lib.hid (HC.out.symm.trans e1)
        have E2 := Lib.hid e2
        have E3 := Lib.hid e3
        rw [hk] at hr
        rw [← hr, hk] at CR
        clear hr hk hk2 e1 e2 e3
        go_wp2_with fail
        refine CR.out.mono ?_
        rintro e w1 ⟨rfl, a, b, ea, eb, hA1, hB1, ht1⟩
        have HW1 := Lib.hid (HM.out _ ht1)
        have hlt1 := hB1.lt
        have SA : a.size ≤ sa.size := by rw [← size_len, ← size_len, ea]; exact strip_le _
        have SB : b.size ≤ sb.size := by rw [← size_len, ← size_len, eb]; exact strip_le _
        have HA1 := Lib.hid hA1
        have HB1 := Lib.hid hB1
        have EA := Lib.hid ea
        have EB := Lib.hid eb
        have c0 : w1.cell? ⟨w0.heap.size, 0, none⟩ = some (.string a) := hA1.cell 0
        have c1 : w1.cell? ⟨w0.heap.size + 1, 0, none⟩ = some (.string b) := hB1.cell 0
        have f0 := hA1.free 0
        have f1 := hB1.free 0
        clear hA1 hB1 ea eb ht1
        have ia : (1 : Int) ≤ (a.size : Int) := by
          have : 0 < a.size := by rw [← size_len, EA.out]; exact List.length_pos_iff.2 E2.out
          omega
        have ib : (1 : Int) ≤ (b.size : Int) := by
          have : 0 < b.size := by rw [← size_len, EB.out]; exact List.length_pos_iff.2 E3.out
          omega
        go_wp2_with fail
        refine wp_region_S (Till [(4, ⟨w0.heap.size, 0, none⟩, .string a), (5, ⟨w0.heap.size + 1, 0, none⟩, .string b)]) (by kernel_rfl) (Till.two c0 c1) (fun hS => ?_)
        refine wpAnyS_take (i := 0) (fun w' => w'.cell? ⟨w0.heap.size, 0, none⟩ = some (.string a)) (v := .string a) rfl (by kernel_rfl) (by kernel_rfl) (by kernel_rfl) (fun _ _ _ h => h) (fun l w hw hS => hS.out (k := 4) (by simp) (hw 4 (by kernel_rfl))) (Till.io rfl) (by kernel_rfl) hS (fun w' hSw => ?_) (by rfl) (fun hS => ?_)
        · go_simp
        try simp only [Act.put, List.setIfInBounds_toArray, List.set_cons_zero, List.set_cons_succ]
        refine wpAnyS_take (i := 2) (fun w' => w'.cell? ⟨w0.heap.size + 1, 0, none⟩ = some (.string b)) (v := .string b) rfl (by kernel_rfl) (by kernel_rfl) (by kernel_rfl) (fun _ _ _ h => h) (fun l w hw hS => hS.out (k := 5) (by simp) (hw 5 (by kernel_rfl))) (Till.io rfl) (by kernel_rfl) hS (fun w' hSw => ?_) (by rfl) (fun hS => ?_)
        · go_simp
        try simp only [Act.put, List.setIfInBounds_toArray, List.set_cons_zero, List.set_cons_succ]
        refine wpAnyS_take (i := 1) (fun _ => True) (v := .string (a.extract 1 a.size)) rfl (by kernel_rfl) (by kernel_rfl) (by kernel_rfl) (fun _ _ _ h => h) (fun _ _ _ _ => trivial) (Till.io rfl) (by kernel_rfl) hS (fun w' hSw => ?_) (by rfl) (fun hS => ?_)
        · go_simp
        try simp only [Act.put, List.setIfInBounds_toArray, List.set_cons_zero, List.set_cons_succ]
        refine wpAnyS_take (i := 3) (fun _ => True) (v := .string (b.extract 1 b.size)) rfl (by kernel_rfl) (by kernel_rfl) (by kernel_rfl) (fun _ _ _ h => h) (fun _ _ _ _ => trivial) (Till.io rfl) (by kernel_rfl) hS (fun w' hSw => ?_) (by rfl) (fun hS => ?_)
        · go_simp
        try simp only [Act.put, List.setIfInBounds_toArray, List.set_cons_zero, List.set_cons_succ]
        refine wpAnyS_one (i := 4) (by kernel_rfl) rfl (fun K hK => ?_)
        go_simp
        refine hK.out _ _ (hS.store1 (of_decide_eq_true (by kernel_rfl)) (by decide) (World.cell?_setCell_far _ _ _ _ (by simp))) (fun hS => ?_)
        clear hK K
        try simp only [Act.put, List.setIfInBounds_toArray, List.set_cons_zero, List.set_cons_succ]
        refine wpAnyS_one (i := 5) (by kernel_rfl) rfl (fun K hK => ?_)
        go_simp
        refine hK.out _ _ (Till.store2 (by kernel_rfl) (of_decide_eq_true (by kernel_rfl))) (fun hS => ?_)
        clear hK K
        try simp only [Act.put, List.setIfInBounds_toArray, List.set_cons_zero, List.set_cons_succ]
        refine wpAnyS_done (by kernel_rfl) ?_ _
        clear hS
        have BA : Blk ((w1.setCell ⟨w0.heap.size, 0, none⟩ (.string (a.extract 1 a.size))).setCell ⟨w0.heap.size + 1, 0, none⟩ (.string (b.extract 1 b.size))) w0.heap.size 9 #[.string (a.extract 1 a.size)] := (HA1.out.set_ 0 _).far (by simp) _
        have BB : Blk ((w1.setCell ⟨w0.heap.size, 0, none⟩ (.string (a.extract 1 a.size))).setCell ⟨w0.heap.size + 1, 0, none⟩ (.string (b.extract 1 b.size))) (w0.heap.size + 1) 9 #[.string (b.extract 1 b.size)] := (HB1.out.far (by simp) _).set_ 0 _
        have HT : Hid (Below w0.heap.size w0 ((w1.setCell ⟨w0.heap.size, 0, none⟩ (.string (a.extract 1 a.size))).setCell ⟨w0.heap.size + 1, 0, none⟩ (.string (b.extract 1 b.size)))) := (HW1.out.setCell (by simp) _).setCell (by simp) _
        generalize ((w1.setCell ⟨w0.heap.size, 0, none⟩ (.string (a.extract 1 a.size))).setCell ⟨w0.heap.size + 1, 0, none⟩ (.string (b.extract 1 b.size))) = w2 at *
        have LA2 := Lib.hid (lenAt_of (BA.cell 0))
        have LB2 := Lib.hid (lenAt_of (BB.cell 0))
        clear c0 c1 f0 f1
        go_wp2_with fail
        go_step3
        refine ⟨rfl, ⟨⟨_, _, BA, BB, ?_, ?_, ?_, HT.out.drew⟩, _, _, _, _, _, _, _, _, _, _, _, _, _, _, _, _, _, _, _, _, _, _, _, _, _, _, _, _, _, _, _, _, _, _, _, _, _, _, _, _, _, _, _, _, _, _, _, _, _, _, _, _, _, _, _, rfl⟩, ?_⟩
        · simp; unfold maxLen; omega
        · simp; unfold maxLen; omega
        · rw [bl_from, bl_from, List.drop_one, List.drop_one, EA.out, EB.out]; exact HX.out.symm
        · show lenAt w2 _ + lenAt w2 _ < _
          rw [LA.out, LB.out, LA2.out, LB2.out]; simp; omega
      · skip
        have hrb : rankR (strip sb.data.toList) = 3 := hr ▸ hk
        have HNE := Lib.hid (fun h => HC.out.symm.trans (rpm_let hk hrb h))
        have HNX := Lib.hid (fun h => HC.out.symm.trans (rpm_let0 hk hrb h))
        have HS := Lib.hid (And.intro (rpm_less3 hk) (rpm_less3 hrb))
        rw [hk, hrb] at CR
        clear hr hk hrb
        go_wp2_with fail
        refine CR.out.mono ?_
        rintro e w1 ⟨rfl, a, b, ea, eb, hA1, hB1, ht1⟩
        have HW1 := Lib.hid (HM.out _ ht1)
        have hlt1 := hB1.lt
        have SA : a.size ≤ sa.size := by rw [← size_len, ← size_len, ea]; exact strip_le _
        have SB : b.size ≤ sb.size := by rw [← size_len, ← size_len, eb]; exact strip_le _
        have HA1 := Lib.hid hA1
        have HB1 := Lib.hid hB1
        have EA := Lib.hid ea
        have EB := Lib.hid eb
        have c0 : w1.cell? ⟨w0.heap.size, 0, none⟩ = some (.string a) := hA1.cell 0
        have c1 : w1.cell? ⟨w0.heap.size + 1, 0, none⟩ = some (.string b) := hB1.cell 0
        have f0 := hA1.free 0
        have f1 := hB1.free 0
        clear hA1 hB1 ea eb ht1
        rw [← EA.out, ← EB.out] at HNE HNX HS
        have na : (a.data.toList.takeWhile isLt).length ≤ a.size := by rw [← size_len]; exact while_le _
        have nb : (b.data.toList.takeWhile isLt).length ≤ b.size := by rw [← size_len]; exact while_le _
        have DA := Lib.hid (drop_of_while (p := isLt) a.data.toList)
        have DB := Lib.hid (drop_of_while (p := isLt) b.data.toList)
        have XA : Hid ((a.extract 0 (a.data.toList.takeWhile isLt).length).data.toList = letP a.data.toList) := (bl_upto _ _).trans (take_of_while _).symm
        have XB : Hid ((b.extract 0 (b.data.toList.takeWhile isLt).length).data.toList = letP b.data.toList) := (bl_upto _ _).trans (take_of_while _).symm
        have CN := Lib.hid (fun w => Tryz.strings_Compare (a.extract 0 (a.data.toList.takeWhile isLt).length) (b.extract 0 (b.data.toList.takeWhile isLt).length)  w)
        rw [compareBytes_eq, XA.out, XB.out] at CN
        have RS := Lib.hid (fun (s : ByteArray) (h : s.size ≤ maxLen) w => run_any isLetter_any (enters_of Tryz.func219 (by kernel_rfl) rfl) s h w)
        have ma : a.size ≤ maxLen := by unfold maxLen; omega
        have mb : b.size ≤ maxLen := by unfold maxLen; omega
        generalize cmpL (letP a.data.toList) (letP b.data.toList) = c at *
        clear XA XB EA EB f0 f1
        go_wp2_with fail
        go_quiet ((go_at_call 201; exact (RS.out _ (by assumption) _).mono fun _ _ h => ⟨h.1, _, h.2.symm⟩))
        generalize (a.data.toList.takeWhile isLt).length = n at *
        generalize (b.data.toList.takeWhile isLt).length = m at *
        have hlt1 : w0.heap.size + 1 < (w1.drewN nq).heap.size := HB1.out.lt
        have HA2 : Hid (Blk (w1.drewN nq) w0.heap.size 9 #[.string a]) := HA1.out
        have HB2 : Hid (Blk (w1.drewN nq) (w0.heap.size + 1) 9 #[.string b]) := HB1.out
        have HW2 : Hid (Below w0.heap.size w0 (w1.drewN nq)) := below_drewN' HW1.out _
        clear HA1 HB1 HW1 c0 c1
        generalize w1.drewN nq = w2 at *
        have c0 : w2.cell? ⟨w0.heap.size, 0, none⟩ = some (.string a) := HA2.out.cell 0
        have c1 : w2.cell? ⟨w0.heap.size + 1, 0, none⟩ = some (.string b) := HB2.out.cell 0
        clear RS ma mb
        go_wp2_with fail
        refine wp_region_still_tail 7 (by kernel_rfl) (by kernel_rfl) ?_
        simp only [List.take_succ_cons, List.take_zero, List.drop_succ_cons, List.drop_zero]
        still_step
        still_step
        still_step
        still_step
        still_step
        still_step
        still_step
        refine wpStill_nil ?_
        go_wp2_with fail
        refine (CN.out _).mono ?_
        rintro e w3 ⟨rfl, hw3⟩
        have hb3 : Below w2.drew.heap.size w2.drew w3 := by rw [hw3]; exact Below.refl _ _
        clear hw3
        have HA3 := Lib.hid ((show Blk w2.drew w0.heap.size 9 #[.string a] from HA2.out).below hb3 (by simpa using Nat.lt_of_succ_lt hlt1))
        have HB3 := Lib.hid ((show Blk w2.drew (w0.heap.size + 1) 9 #[.string b] from HB2.out).below hb3 (by simpa using hlt1))
        have HW3 : Hid (Below w0.heap.size w0 w3) := HW2.out.drew.trans (hb3.mono (by simp; omega))
        clear hb3 HA2 HB2 HW2 c0 c1
        have c0 : w3.cell? ⟨w0.heap.size, 0, none⟩ = some (.string a) := HA3.out.cell 0
        have c1 : w3.cell? ⟨w0.heap.size + 1, 0, none⟩ = some (.string b) := HB3.out.cell 0
        have f0 := HA3.out.free 0
        have f1 := HB3.out.free 0
        clear hlt1
        by_cases h0 : c = 0
        · subst h0
          have HX := Lib.hid (HNX.out rfl)
          clear HNE HNX
          have pa : (n : Int) ≤ (a.size : Int) := by omega
          have pb : (m : Int) ≤ (b.size : Int) := by omega
          go_wp2_with fail
          refine wp_region_S (Till [(6, ⟨w0.heap.size, 0, none⟩, .string a), (7, ⟨w0.heap.size + 1, 0, none⟩, .string b)]) (by kernel_rfl) (Till.two c0 c1) (fun hS => ?_)
          refine wpAnyS_take (i := 0) (fun w' => w'.cell? ⟨w0.heap.size, 0, none⟩ = some (.string a)) (v := .string a) rfl (by kernel_rfl) (by kernel_rfl) (by kernel_rfl) (fun _ _ _ h => h) (fun l w hw hS => hS.out (k := 6) (by simp) (hw 6 (by kernel_rfl))) (Till.io rfl) (by kernel_rfl) hS (fun w' hSw => ?_) (by rfl) (fun hS => ?_)
          · go_simp
          try simp only [Act.put, List.setIfInBounds_toArray, List.set_cons_zero, List.set_cons_succ]
          refine wpAnyS_take (i := 3) (fun w' => w'.cell? ⟨w0.heap.size + 1, 0, none⟩ = some (.string b)) (v := .string b) rfl (by kernel_rfl) (by kernel_rfl) (by kernel_rfl) (fun _ _ _ h => h) (fun l w hw hS => hS.out (k := 7) (by simp) (hw 7 (by kernel_rfl))) (Till.io rfl) (by kernel_rfl) hS (fun w' hSw => ?_) (by rfl) (fun hS => ?_)
          · go_simp
          try simp only [Act.put, List.setIfInBounds_toArray, List.set_cons_zero, List.set_cons_succ]
          refine wpAnyS_take (i := 1) (fun _ => True) (v := .int .i64 n) rfl (by kernel_rfl) (by kernel_rfl) (by kernel_rfl) (fun _ _ _ h => h) (fun _ _ _ _ => trivial) (Till.io rfl) (by kernel_rfl) hS (fun w' hSw => ?_) (by rfl) (fun hS => ?_)
          · go_simp
          try simp only [Act.put, List.setIfInBounds_toArray, List.set_cons_zero, List.set_cons_succ]
          refine wpAnyS_take (i := 4) (fun _ => True) (v := .int .i64 m) rfl (by kernel_rfl) (by kernel_rfl) (by kernel_rfl) (fun _ _ _ h => h) (fun _ _ _ _ => trivial) (Till.io rfl) (by kernel_rfl) hS (fun w' hSw => ?_) (by rfl) (fun hS => ?_)
          · go_simp
          try simp only [Act.put, List.setIfInBounds_toArray, List.set_cons_zero, List.set_cons_succ]
          refine wpAnyS_take (i := 2) (fun _ => True) (v := .string (a.extract n a.size)) rfl (by kernel_rfl) (by kernel_rfl) (by kernel_rfl) (fun _ _ _ h => h) (fun _ _ _ _ => trivial) (Till.io rfl) (by kernel_rfl) hS (fun w' hSw => ?_) (by rfl) (fun hS => ?_)
          · go_simp
          try simp only [Act.put, List.setIfInBounds_toArray, List.set_cons_zero, List.set_cons_succ]
          refine wpAnyS_take (i := 5) (fun _ => True) (v := .string (b.extract m b.size)) rfl (by kernel_rfl) (by kernel_rfl) (by kernel_rfl) (fun _ _ _ h => h) (fun _ _ _ _ => trivial) (Till.io rfl) (by kernel_rfl) hS (fun w' hSw => ?_) (by rfl) (fun hS => ?_)
          · go_simp
          try simp only [Act.put, List.setIfInBounds_toArray, List.set_cons_zero, List.set_cons_succ]
          refine wpAnyS_one (i := 6) (by kernel_rfl) rfl (fun K hK => ?_)
          go_simp
          refine hK.out _ _ (hS.store1 (of_decide_eq_true (by kernel_rfl)) (by decide) (World.cell?_setCell_far _ _ _ _ (by simp))) (fun hS => ?_)
          clear hK K
          try simp only [Act.put, List.setIfInBounds_toArray, List.set_cons_zero, List.set_cons_succ]
          refine wpAnyS_one (i := 7) (by kernel_rfl) rfl (fun K hK => ?_)
          go_simp
          refine hK.out _ _ (Till.store2 (by kernel_rfl) (of_decide_eq_true (by kernel_rfl))) (fun hS => ?_)
          clear hK K
          try simp only [Act.put, List.setIfInBounds_toArray, List.set_cons_zero, List.set_cons_succ]
          refine wpAnyS_done (by kernel_rfl) ?_ _
          clear hS
          have BA : Blk ((w3.setCell ⟨w0.heap.size, 0, none⟩ (.string (a.extract n a.size))).setCell ⟨w0.heap.size + 1, 0, none⟩ (.string (b.extract m b.size))) w0.heap.size 9 #[.string (a.extract n a.size)] := (HA3.out.set_ 0 _).far (by simp) _
          have BB : Blk ((w3.setCell ⟨w0.heap.size, 0, none⟩ (.string (a.extract n a.size))).setCell ⟨w0.heap.size + 1, 0, none⟩ (.string (b.extract m b.size))) (w0.heap.size + 1) 9 #[.string (b.extract m b.size)] := (HB3.out.far (by simp) _).set_ 0 _
          have HT : Hid (Below w0.heap.size w0 ((w3.setCell ⟨w0.heap.size, 0, none⟩ (.string (a.extract n a.size))).setCell ⟨w0.heap.size + 1, 0, none⟩ (.string (b.extract m b.size)))) := (HW3.out.setCell (by simp) _).setCell (by simp) _
          generalize ((w3.setCell ⟨w0.heap.size, 0, none⟩ (.string (a.extract n a.size))).setCell ⟨w0.heap.size + 1, 0, none⟩ (.string (b.extract m b.size))) = w2 at *
          have LA2 := Lib.hid (lenAt_of (BA.cell 0))
          have LB2 := Lib.hid (lenAt_of (BB.cell 0))
          have YA : Hid ((a.extract n a.size).data.toList = a.data.toList.dropWhile isLt) := (bl_from _ _).trans DA.out.symm
          have YB : Hid ((b.extract m b.size).data.toList = b.data.toList.dropWhile isLt) := (bl_from _ _).trans DB.out.symm
          have HS2 := HS.out
          rw [← YA.out, ← YB.out, size_len, size_len, size_len, size_len] at HS2
          rw [← YA.out, ← YB.out] at HX
          clear c0 c1 f0 f1 HA3 HB3 HW3 DA DB YA YB HS pa pb CR CN
          generalize a.extract n a.size = a' at *
          generalize b.extract m b.size = b' at *
          go_wp2_with fail
          go_step3
          refine ⟨rfl, ⟨⟨_, _, BA, BB, ?_, ?_, ?_, HT.out.drew⟩, _, _, _, _, _, _, _, _, _, _, _, _, _, _, _, _, _, _, _, _, _, _, _, _, _, _, _, _, _, _, _, _, _, _, _, _, _, _, _, _, _, _, _, _, _, _, _, _, _, _, _, _, _, _, _, rfl⟩, ?_⟩
          · unfold maxLen; omega
          · unfold maxLen; omega
          · exact HX.out.symm
          · show lenAt w2 _ + lenAt w2 _ < _
            rw [LA.out, LB.out, LA2.out, LB2.out]; omega
        · have t1 : (c == 0) = false := by simpa using h0
          have t2 : (c != 0) = true := by simpa using h0
          have HX := Lib.hid (HNE.out h0)
          clear HNE HNX h0 c0 c1 f0 f1
          go_wp2_with fail
          simp only [Exit.jump]
          go_ret
          exact ⟨by rw [HX.out]; rfl, HW3.out⟩
      · skip
        have hrb : rankR (strip sb.data.toList) = 4 := hr ▸ hk
        have HNE := Lib.hid (fun h => HC.out.symm.trans (rpm_num hk hrb h))
        have HNX := Lib.hid (fun h => HC.out.symm.trans (rpm_num0 hk hrb h))
        have HS := Lib.hid (And.intro (rpm_less4 hk) (rpm_less4 hrb))
        rw [hk, hrb] at CR
        clear hr hk hrb
        go_wp2_with fail
        refine CR.out.mono ?_
        rintro e w1 ⟨rfl, a, b, ea, eb, hA1, hB1, ht1⟩
        have HW1 := Lib.hid (HM.out _ ht1)
        have hlt1 := hB1.lt
        have SA : a.size ≤ sa.size := by rw [← size_len, ← size_len, ea]; exact strip_le _
        have SB : b.size ≤ sb.size := by rw [← size_len, ← size_len, eb]; exact strip_le _
        have HA1 := Lib.hid hA1
        have HB1 := Lib.hid hB1
        have EA := Lib.hid ea
        have EB := Lib.hid eb
        have c0 : w1.cell? ⟨w0.heap.size, 0, none⟩ = some (.string a) := hA1.cell 0
        have c1 : w1.cell? ⟨w0.heap.size + 1, 0, none⟩ = some (.string b) := hB1.cell 0
        have f0 := hA1.free 0
        have f1 := hB1.free 0
        clear hA1 hB1 ea eb ht1
        rw [← EA.out, ← EB.out] at HNE HNX HS
        have na : (a.data.toList.takeWhile isDg).length ≤ a.size := by rw [← size_len]; exact while_le _
        have nb : (b.data.toList.takeWhile isDg).length ≤ b.size := by rw [← size_len]; exact while_le _
        have DA := Lib.hid (drop_of_while (p := isDg) a.data.toList)
        have DB := Lib.hid (drop_of_while (p := isDg) b.data.toList)
        have XA : Hid ((a.extract 0 (a.data.toList.takeWhile isDg).length).data.toList = numP a.data.toList) := (bl_upto _ _).trans (take_of_while _).symm
        have XB : Hid ((b.extract 0 (b.data.toList.takeWhile isDg).length).data.toList = numP b.data.toList) := (bl_upto _ _).trans (take_of_while _).symm
        have CN := Lib.hid (fun w => num_any (a.extract 0 (a.data.toList.takeWhile isDg).length) (b.extract 0 (b.data.toList.takeWhile isDg).length) (by simp; unfold maxLen; omega) (by simp; unfold maxLen; omega) w)
        rw [XA.out, XB.out] at CN
        have RS := Lib.hid (fun (s : ByteArray) (h : s.size ≤ maxLen) w => run_any isDigit_any (enters_of Tryz.func204 (by kernel_rfl) rfl) s h w)
        have ma : a.size ≤ maxLen := by unfold maxLen; omega
        have mb : b.size ≤ maxLen := by unfold maxLen; omega
        generalize cmpNum (numP a.data.toList) (numP b.data.toList) = c at *
        clear XA XB EA EB f0 f1
        go_wp2_with fail
        go_quiet ((go_at_call 201; exact (RS.out _ (by assumption) _).mono fun _ _ h => ⟨h.1, _, h.2.symm⟩))
        generalize (a.data.toList.takeWhile isDg).length = n at *
        generalize (b.data.toList.takeWhile isDg).length = m at *
        have hlt1 : w0.heap.size + 1 < (w1.drewN nq).heap.size := HB1.out.lt
        have HA2 : Hid (Blk (w1.drewN nq) w0.heap.size 9 #[.string a]) := HA1.out
        have HB2 : Hid (Blk (w1.drewN nq) (w0.heap.size + 1) 9 #[.string b]) := HB1.out
        have HW2 : Hid (Below w0.heap.size w0 (w1.drewN nq)) := below_drewN' HW1.out _
        clear HA1 HB1 HW1 c0 c1
        generalize w1.drewN nq = w2 at *
        have c0 : w2.cell? ⟨w0.heap.size, 0, none⟩ = some (.string a) := HA2.out.cell 0
        have c1 : w2.cell? ⟨w0.heap.size + 1, 0, none⟩ = some (.string b) := HB2.out.cell 0
        clear RS ma mb
        go_wp2_with fail
        refine wp_region_still_tail 7 (by kernel_rfl) (by kernel_rfl) ?_
        simp only [List.take_succ_cons, List.take_zero, List.drop_succ_cons, List.drop_zero]
        still_step
        still_step
        still_step
        still_step
        still_step
        still_step
        still_step
        refine wpStill_nil ?_
        go_wp2_with fail
        refine (CN.out _).mono ?_
        rintro e w3 ⟨rfl, hb3⟩
        have HA3 := Lib.hid ((show Blk w2.drew w0.heap.size 9 #[.string a] from HA2.out).below hb3 (by simpa using Nat.lt_of_succ_lt hlt1))
        have HB3 := Lib.hid ((show Blk w2.drew (w0.heap.size + 1) 9 #[.string b] from HB2.out).below hb3 (by simpa using hlt1))
        have HW3 : Hid (Below w0.heap.size w0 w3) := HW2.out.drew.trans (hb3.mono (by simp; omega))
        clear hb3 HA2 HB2 HW2 c0 c1
        have c0 : w3.cell? ⟨w0.heap.size, 0, none⟩ = some (.string a) := HA3.out.cell 0
        have c1 : w3.cell? ⟨w0.heap.size + 1, 0, none⟩ = some (.string b) := HB3.out.cell 0
        have f0 := HA3.out.free 0
        have f1 := HB3.out.free 0
        clear hlt1
        by_cases h0 : c = 0
        · subst h0
          have HX := Lib.hid (HNX.out rfl)
          clear HNE HNX
          have pa : (n : Int) ≤ (a.size : Int) := by omega
          have pb : (m : Int) ≤ (b.size : Int) := by omega
          go_wp2_with fail
          refine wp_region_S (Till [(6, ⟨w0.heap.size, 0, none⟩, .string a), (7, ⟨w0.heap.size + 1, 0, none⟩, .string b)]) (by kernel_rfl) (Till.two c0 c1) (fun hS => ?_)
          refine wpAnyS_take (i := 0) (fun w' => w'.cell? ⟨w0.heap.size, 0, none⟩ = some (.string a)) (v := .string a) rfl (by kernel_rfl) (by kernel_rfl) (by kernel_rfl) (fun _ _ _ h => h) (fun l w hw hS => hS.out (k := 6) (by simp) (hw 6 (by kernel_rfl))) (Till.io rfl) (by kernel_rfl) hS (fun w' hSw => ?_) (by rfl) (fun hS => ?_)
          · go_simp
          try simp only [Act.put, List.setIfInBounds_toArray, List.set_cons_zero, List.set_cons_succ]
          refine wpAnyS_take (i := 3) (fun w' => w'.cell? ⟨w0.heap.size + 1, 0, none⟩ = some (.string b)) (v := .string b) rfl (by kernel_rfl) (by kernel_rfl) (by kernel_rfl) (fun _ _ _ h => h) (fun l w hw hS => hS.out (k := 7) (by simp) (hw 7 (by kernel_rfl))) (Till.io rfl) (by kernel_rfl) hS (fun w' hSw => ?_) (by rfl) (fun hS => ?_)
          · go_simp
          try simp only [Act.put, List.setIfInBounds_toArray, List.set_cons_zero, List.set_cons_succ]
          refine wpAnyS_take (i := 1) (fun _ => True) (v := .int .i64 n) rfl (by kernel_rfl) (by kernel_rfl) (by kernel_rfl) (fun _ _ _ h => h) (fun _ _ _ _ => trivial) (Till.io rfl) (by kernel_rfl) hS (fun w' hSw => ?_) (by rfl) (fun hS => ?_)
          · go_simp
          try simp only [Act.put, List.setIfInBounds_toArray, List.set_cons_zero, List.set_cons_succ]
          refine wpAnyS_take (i := 4) (fun _ => True) (v := .int .i64 m) rfl (by kernel_rfl) (by kernel_rfl) (by kernel_rfl) (fun _ _ _ h => h) (fun _ _ _ _ => trivial) (Till.io rfl) (by kernel_rfl) hS (fun w' hSw => ?_) (by rfl) (fun hS => ?_)
          · go_simp
          try simp only [Act.put, List.setIfInBounds_toArray, List.set_cons_zero, List.set_cons_succ]
          refine wpAnyS_take (i := 2) (fun _ => True) (v := .string (a.extract n a.size)) rfl (by kernel_rfl) (by kernel_rfl) (by kernel_rfl) (fun _ _ _ h => h) (fun _ _ _ _ => trivial) (Till.io rfl) (by kernel_rfl) hS (fun w' hSw => ?_) (by rfl) (fun hS => ?_)
          · go_simp
          try simp only [Act.put, List.setIfInBounds_toArray, List.set_cons_zero, List.set_cons_succ]
          refine wpAnyS_take (i := 5) (fun _ => True) (v := .string (b.extract m b.size)) rfl (by kernel_rfl) (by kernel_rfl) (by kernel_rfl) (fun _ _ _ h => h) (fun _ _ _ _ => trivial) (Till.io rfl) (by kernel_rfl) hS (fun w' hSw => ?_) (by rfl) (fun hS => ?_)
          · go_simp
          try simp only [Act.put, List.setIfInBounds_toArray, List.set_cons_zero, List.set_cons_succ]
          refine wpAnyS_one (i := 6) (by kernel_rfl) rfl (fun K hK => ?_)
          go_simp
          refine hK.out _ _ (hS.store1 (of_decide_eq_true (by kernel_rfl)) (by decide) (World.cell?_setCell_far _ _ _ _ (by simp))) (fun hS => ?_)
          clear hK K
          try simp only [Act.put, List.setIfInBounds_toArray, List.set_cons_zero, List.set_cons_succ]
          refine wpAnyS_one (i := 7) (by kernel_rfl) rfl (fun K hK => ?_)
          go_simp
          refine hK.out _ _ (Till.store2 (by kernel_rfl) (of_decide_eq_true (by kernel_rfl))) (fun hS => ?_)
          clear hK K
          try simp only [Act.put, List.setIfInBounds_toArray, List.set_cons_zero, List.set_cons_succ]
          refine wpAnyS_done (by kernel_rfl) ?_ _
          clear hS
          have BA : Blk ((w3.setCell ⟨w0.heap.size, 0, none⟩ (.string (a.extract n a.size))).setCell ⟨w0.heap.size + 1, 0, none⟩ (.string (b.extract m b.size))) w0.heap.size 9 #[.string (a.extract n a.size)] := (HA3.out.set_ 0 _).far (by simp) _
          have BB : Blk ((w3.setCell ⟨w0.heap.size, 0, none⟩ (.string (a.extract n a.size))).setCell ⟨w0.heap.size + 1, 0, none⟩ (.string (b.extract m b.size))) (w0.heap.size + 1) 9 #[.string (b.extract m b.size)] := (HB3.out.far (by simp) _).set_ 0 _
          have HT : Hid (Below w0.heap.size w0 ((w3.setCell ⟨w0.heap.size, 0, none⟩ (.string (a.extract n a.size))).setCell ⟨w0.heap.size + 1, 0, none⟩ (.string (b.extract m b.size)))) := (HW3.out.setCell (by simp) _).setCell (by simp) _
          generalize ((w3.setCell ⟨w0.heap.size, 0, none⟩ (.string (a.extract n a.size))).setCell ⟨w0.heap.size + 1, 0, none⟩ (.string (b.extract m b.size))) = w2 at *
          have LA2 := Lib.hid (lenAt_of (BA.cell 0))
          have LB2 := Lib.hid (lenAt_of (BB.cell 0))
          have YA : Hid ((a.extract n a.size).data.toList = a.data.toList.dropWhile isDg) := (bl_from _ _).trans DA.out.symm
          have YB : Hid ((b.extract m b.size).data.toList = b.data.toList.dropWhile isDg) := (bl_from _ _).trans DB.out.symm
          have HS2 := HS.out
          rw [← YA.out, ← YB.out, size_len, size_len, size_len, size_len] at HS2
          rw [← YA.out, ← YB.out] at HX
          clear c0 c1 f0 f1 HA3 HB3 HW3 DA DB YA YB HS pa pb CR CN
          generalize a.extract n a.size = a' at *
          generalize b.extract m b.size = b' at *
          go_wp2_with fail
          go_step3
          refine ⟨rfl, ⟨⟨_, _, BA, BB, ?_, ?_, ?_, HT.out.drew⟩, _, _, _, _, _, _, _, _, _, _, _, _, _, _, _, _, _, _, _, _, _, _, _, _, _, _, _, _, _, _, _, _, _, _, _, _, _, _, _, _, _, _, _, _, _, _, _, _, _, _, _, _, _, _, _, rfl⟩, ?_⟩
          · unfold maxLen; omega
          · unfold maxLen; omega
          · exact HX.out.symm
          · show lenAt w2 _ + lenAt w2 _ < _
            rw [LA.out, LB.out, LA2.out, LB2.out]; omega
        · have t1 : (c == 0) = false := by simpa using h0
          have t2 : (c != 0) = true := by simpa using h0
          have HX := Lib.hid (HNE.out h0)
          clear HNE HNX h0 c0 c1 f0 f1
          go_wp2_with fail
          simp only [Exit.jump]
          go_ret
          exact ⟨by rw [HX.out]; rfl, HW3.out⟩
    · have HR := Lib.hid (HC.out.symm.trans (rpm_ne hr))
      have t1 : (rankR (strip sa.data.toList) == rankR (strip sb.data.toList)) = false := by simpa using hr
      have t2 : (rankR (strip sa.data.toList) != rankR (strip sb.data.toList)) = true := by simpa using hr
      clear hr HC
      generalize rankR (strip sa.data.toList) = ra at *
      generalize rankR (strip sb.data.toList) = rb at *
      have CI := Lib.hid (fun w => Tryz.cmp_Compare_int ra rb w)
      go_wp2_with fail
      refine CR.out.mono ?_
      rintro e w1 ⟨rfl, a, b, ea, eb, hA1, hB1, ht1⟩
      have HW1 := Lib.hid (HM.out _ ht1)
      clear hA1 hB1 ht1 ea eb
      go_wp2_with fail
      refine (CI.out _).mono ?_
      rintro e w2 ⟨rfl, rfl⟩
      go_wp2_with fail
      simp only [Exit.jump]
      go_ret
      exact ⟨by rw [HR.out]; rfl, HW1.out⟩
end Go.Proofs.YtpmfmkpfjomgnaaGreatDoor

/- Comparing texts and releases. -/
namespace Go.Proofs.YtpmfmkpfjomgnaaGreatDoor
set_option linter.unusedSimpArgs false
set_option linter.unusedVariables false
open Go.RowKit

set_option maxRecDepth 100000 in
theorem texts_any (kind : Int) (a b : ByteArray) (ha : a.size ≤ maxLen) (hb : b.size ≤ maxLen) (w : World) :
    Calls Tryz.prog 196 #[.int .i64 kind, .string a, .string b] w fun e w' => e = .returned (.int .i64 (cmpTxt kind a.data.toList b.data.toList)) ∧ Below w.heap.size w w' := by
  by_cases h : kind = 1
  · subst h
    have C := Lib.hid (fun w => rpm_any a b ha hb w)
    unfold PostR at C
    go_enter Tryz.func196, Tryz.ntmps196
    go_wp2_with fail
    refine (C.out _).mono ?_
    rintro e w1 ⟨rfl, hb1⟩
    go_wp2_with fail
    go_ret
    exact ⟨rfl, hb1⟩
  · have t1 : (kind == 1) = false := by simpa using h
    have C := Lib.hid (fun w => deb_any a b ha hb w)
    have HC := Lib.hid (show cmpTxt kind a.data.toList b.data.toList = cmpDeb a.data.toList b.data.toList by unfold cmpTxt; rw [if_neg h])
    unfold PostD at C
    clear h
    go_enter Tryz.func196, Tryz.ntmps196
    go_wp2_with fail
    refine (C.out _).mono ?_
    rintro e w1 ⟨rfl, hb1⟩
    go_wp2_with fail
    go_ret
    rw [HC.out]
    exact ⟨rfl, hb1⟩

theorem someI_of (s : ByteArray) : someI s.data.toList = if s.size = 0 then 0 else 1 := by
  unfold someI
  by_cases h : s.size = 0
  · rw [if_pos h, if_pos (list_nil h)]
  · rw [if_neg h, if_neg (fun e => h (by rw [← size_len, e]; rfl))]

set_option maxHeartbeats 400000 in
set_option maxRecDepth 100000 in
theorem releases_any (kind : Int) (a b : ByteArray) (ha : a.size ≤ maxLen) (hb : b.size ≤ maxLen) (w : World) :
    Calls Tryz.prog 163 #[.int .i64 kind, .string a, .string b] w fun e w' => e = .returned (.int .i64 (cmpRel kind a.data.toList b.data.toList)) ∧ Below w.heap.size w w' := by
  have C := Lib.hid (fun w => texts_any kind a b ha hb w)
  by_cases h : kind = 1
  · subst h
    have HR : Hid (cmpRel 1 a.data.toList b.data.toList = thenC (cmpI (if a.size = 0 then 0 else 1) (if b.size = 0 then 0 else 1)) (cmpRpm a.data.toList b.data.toList)) := by
      show cmpRel 1 _ _ = _
      rw [← someI_of, ← someI_of]; rfl
    have HT : Hid (cmpTxt 1 a.data.toList b.data.toList = cmpRpm a.data.toList b.data.toList) := rfl
    by_cases z1 : a.size = 0
    · have HV : Hid (Lib.compareInt 0 (b.size : Int) = cmpRel 1 a.data.toList b.data.toList) := by
        show Lib.compareInt _ _ = _
        rw [HR.out, if_pos z1]
        by_cases z2 : b.size = 0
        · rw [if_pos z2, z2, list_nil z1, list_nil z2]
          rw [show cmpI 0 0 = 0 from rfl, thenC_zero, rpm_nil]; rfl
        · have : (0 : Int) < (b.size : Int) := by omega
          rw [if_neg z2, thenC_ne (by decide)]
          show cmpI 0 _ = cmpI 0 1
          unfold cmpI
          rw [if_pos this]; rfl
      have CI := Lib.hid (fun w => Tryz.cmp_Compare_int 0 (b.size : Int) w)
      generalize Lib.compareInt 0 (b.size : Int) = x at *
      obtain rfl := empty_of z1
      clear z1 HR HT C
      go_enter Tryz.func163, Tryz.ntmps163
      go_wp2_with fail
      refine (CI.out _).mono ?_
      rintro e w1 ⟨rfl, rfl⟩
      go_wp2_with fail
      go_ret
      exact ⟨by rw [HV.out]; rfl, Below.refl _ _⟩
    · by_cases z2 : b.size = 0
      · have HV : Hid (Lib.compareInt (a.size : Int) 0 = cmpRel 1 a.data.toList b.data.toList) := by
          have h1 : (0 : Int) < (a.size : Int) := by omega
          have h2 : ¬ (a.size : Int) < 0 := by omega
          show Lib.compareInt _ _ = _
          rw [HR.out, if_neg z1, if_pos z2, thenC_ne (by decide)]
          show cmpI _ 0 = cmpI 1 0
          unfold cmpI
          rw [if_neg h2, if_pos h1]; rfl
        have CI := Lib.hid (fun w => Tryz.cmp_Compare_int (a.size : Int) 0 w)
        generalize Lib.compareInt (a.size : Int) 0 = x at *
        obtain rfl := empty_of z2
        have he := toList_cons (s := a) (by omega)
        have he2 : a.toList ≠ [] := by intro h; rw [h] at he; cases he
        clear z1 z2 HR HT C
        go_enter Tryz.func163, Tryz.ntmps163
        go_wp2_with fail
        refine (CI.out _).mono ?_
        rintro e w1 ⟨rfl, rfl⟩
        go_wp2_with fail
        go_ret
        exact ⟨by rw [HV.out]; rfl, Below.refl _ _⟩
      · have HV : Hid (cmpTxt 1 a.data.toList b.data.toList = cmpRel 1 a.data.toList b.data.toList) := by
          show cmpTxt 1 _ _ = _
          rw [HR.out, if_neg z1, if_neg z2, show cmpI 1 1 = 0 from rfl, thenC_zero]; rfl
        have he := toList_cons (s := a) (by omega)
        have he2 : a.toList ≠ [] := by intro h; rw [h] at he; cases he
        have ge := toList_cons (s := b) (by omega)
        have ge2 : b.toList ≠ [] := by intro h; rw [h] at ge; cases ge
        clear z1 z2 HR HT
        go_enter Tryz.func163, Tryz.ntmps163
        go_wp2_with fail
        refine (C.out _).mono ?_
        rintro e w1 ⟨rfl, hb1⟩
        go_wp2_with fail
        go_ret
        exact ⟨by rw [HV.out]; rfl, hb1⟩
  · have t1 : (kind == 1) = false := by simpa using h
    have HV := Lib.hid (show cmpTxt kind a.data.toList b.data.toList = cmpRel kind a.data.toList b.data.toList by unfold cmpTxt cmpRel; rw [if_neg h, if_neg h])
    clear h
    go_enter Tryz.func163, Tryz.ntmps163
    go_wp2_with fail
    refine (C.out _).mono ?_
    rintro e w1 ⟨rfl, hb1⟩
    go_wp2_with fail
    go_ret
    exact ⟨by rw [HV.out]; rfl, hb1⟩
end Go.Proofs.YtpmfmkpfjomgnaaGreatDoor

/- Two versions but for their releases: compareVersions. -/
namespace Go.Proofs.YtpmfmkpfjomgnaaGreatDoor
set_option linter.unusedSimpArgs false
set_option linter.unusedVariables false
open Go.RowKit

/-- Two blocks stay, and all that was there before. -/
def KeepV (w0 : World) (c1 c2 : Array Value) (w : World) : Prop := Blk w w0.heap.size 143 c1 ∧ Blk w (w0.heap.size + 1) 143 c2 ∧ Below w0.heap.size w0 w
theorem KeepV.below {w0 w w' : World} {c1 c2 : Array Value} (h : KeepV w0 c1 c2 w) (hb : Below w.heap.size w w') : KeepV w0 c1 c2 w' :=
  ⟨h.1.below hb h.1.lt, h.2.1.below hb h.2.1.lt, h.2.2.trans (hb.mono h.2.2.size)⟩

set_option maxHeartbeats 1000000 in
set_option maxRecDepth 100000 in
theorem versions_any (kind : Int) (e1 v1 r1 e2 v2 r2 : ByteArray) (s1 : e1.size ≤ maxLen) (s2 : e2.size ≤ maxLen) (s3 : v1.size ≤ maxLen) (s4 : v2.size ≤ maxLen) (w0 : World) :
    Calls Tryz.prog 162 #[.int .i64 kind, .agg #[.string e1, .string v1, .string r1], .agg #[.string e2, .string v2, .string r2]] w0 fun e w' => e = .returned (.int .i64 (thenC (cmpNum e1.data.toList e2.data.toList) (cmpTxt kind v1.data.toList v2.data.toList))) ∧ Below w0.heap.size w0 w' := by
  have CN := Lib.hid (fun w => num_any e1 e2 s1 s2 w)
  have CT := Lib.hid (fun w => texts_any kind v1 v2 s3 s4 w)
  clear s1 s2 s3 s4
  go_enter Tryz.func162, Tryz.ntmps162
  go_wp2_with fail
  have hS0 : KeepV w0 #[Value.string e1, .string v1, .string r1] #[Value.string e2, .string v2, .string r2] ((w0.alloc (.cells #[.string e1, .string v1, .string r1] 143)).alloc (.cells #[.string e2, .string v2, .string r2] 143)) :=
    ⟨(Blk.new w0 _ _).alloc _, Blk.new' (by simp), ((Below.refl _ _).alloc (Nat.le_refl _) _).alloc (by simp) _⟩
  refine wp_region_S (fun _ w => KeepV w0 #[Value.string e1, .string v1, .string r1] #[Value.string e2, .string v2, .string r2] w) (by kernel_rfl) ⟨hS0.1, hS0.2.1, hS0.2.2.drew⟩ (fun hS => ?_)
  clear hS0
  refine wpAnyS_take (i := 0) (KeepV w0 #[Value.string e1, .string v1, .string r1] #[Value.string e2, .string v2, .string r2]) (v := .pointer (some ⟨w0.heap.size, 0, none⟩)) rfl (by kernel_rfl) (by kernel_rfl) (by kernel_rfl) (fun _ _ _ h => h) (fun _ _ _ h => h) (fun _ _ => Iff.rfl) (by kernel_rfl) hS (fun w' hSw => ?_) (by rfl) (fun hS => ?_)
  · go_simp
  try simp only [Act.put, List.setIfInBounds_toArray, List.set_cons_zero, List.set_cons_succ]
  refine wpAnyS_take (i := 1) (KeepV w0 #[Value.string e1, .string v1, .string r1] #[Value.string e2, .string v2, .string r2]) (v := .string e1) rfl (by kernel_rfl) (by kernel_rfl) (by kernel_rfl) (fun _ _ _ h => h) (fun _ _ _ h => h) (fun _ _ => Iff.rfl) (by kernel_rfl) hS (fun w' hSw => ?_) (by rfl) (fun hS => ?_)
  · have c : w'.cell? ⟨w0.heap.size, 0, none⟩ = some (.string e1) := hSw.1.cell 0
    go_simp
  try simp only [Act.put, List.setIfInBounds_toArray, List.set_cons_zero, List.set_cons_succ]
  refine wpAnyS_take (i := 2) (KeepV w0 #[Value.string e1, .string v1, .string r1] #[Value.string e2, .string v2, .string r2]) (v := .pointer (some ⟨w0.heap.size + 1, 0, none⟩)) rfl (by kernel_rfl) (by kernel_rfl) (by kernel_rfl) (fun _ _ _ h => h) (fun _ _ _ h => h) (fun _ _ => Iff.rfl) (by kernel_rfl) hS (fun w' hSw => ?_) (by rfl) (fun hS => ?_)
  · go_simp
  try simp only [Act.put, List.setIfInBounds_toArray, List.set_cons_zero, List.set_cons_succ]
  refine wpAnyS_take (i := 3) (KeepV w0 #[Value.string e1, .string v1, .string r1] #[Value.string e2, .string v2, .string r2]) (v := .string e2) rfl (by kernel_rfl) (by kernel_rfl) (by kernel_rfl) (fun _ _ _ h => h) (fun _ _ _ h => h) (fun _ _ => Iff.rfl) (by kernel_rfl) hS (fun w' hSw => ?_) (by rfl) (fun hS => ?_)
  · have c : w'.cell? ⟨w0.heap.size + 1, 0, none⟩ = some (.string e2) := hSw.2.1.cell 0
    go_simp
  try simp only [Act.put, List.setIfInBounds_toArray, List.set_cons_zero, List.set_cons_succ]
  refine wpAnyS_take (i := 5) (KeepV w0 #[Value.string e1, .string v1, .string r1] #[Value.string e2, .string v2, .string r2]) (v := .int .i64 kind) rfl (by kernel_rfl) (by kernel_rfl) (by kernel_rfl) (fun _ _ _ h => h) (fun _ _ _ h => h) (fun _ _ => Iff.rfl) (by kernel_rfl) hS (fun w' hSw => ?_) (by rfl) (fun hS => ?_)
  · go_simp
  try simp only [Act.put, List.setIfInBounds_toArray, List.set_cons_zero, List.set_cons_succ]
  refine wpAnyS_take (i := 6) (KeepV w0 #[Value.string e1, .string v1, .string r1] #[Value.string e2, .string v2, .string r2]) (v := .pointer (some ⟨w0.heap.size, 1, none⟩)) rfl (by kernel_rfl) (by kernel_rfl) (by kernel_rfl) (fun _ _ _ h => h) (fun _ _ _ h => h) (fun _ _ => Iff.rfl) (by kernel_rfl) hS (fun w' hSw => ?_) (by rfl) (fun hS => ?_)
  · go_simp
  try simp only [Act.put, List.setIfInBounds_toArray, List.set_cons_zero, List.set_cons_succ]
  refine wpAnyS_take (i := 7) (KeepV w0 #[Value.string e1, .string v1, .string r1] #[Value.string e2, .string v2, .string r2]) (v := .string v1) rfl (by kernel_rfl) (by kernel_rfl) (by kernel_rfl) (fun _ _ _ h => h) (fun _ _ _ h => h) (fun _ _ => Iff.rfl) (by kernel_rfl) hS (fun w' hSw => ?_) (by rfl) (fun hS => ?_)
  · have c : w'.cell? ⟨w0.heap.size, 1, none⟩ = some (.string v1) := hSw.1.cell 1
    go_simp
  try simp only [Act.put, List.setIfInBounds_toArray, List.set_cons_zero, List.set_cons_succ]
  refine wpAnyS_take (i := 8) (KeepV w0 #[Value.string e1, .string v1, .string r1] #[Value.string e2, .string v2, .string r2]) (v := .pointer (some ⟨w0.heap.size + 1, 1, none⟩)) rfl (by kernel_rfl) (by kernel_rfl) (by kernel_rfl) (fun _ _ _ h => h) (fun _ _ _ h => h) (fun _ _ => Iff.rfl) (by kernel_rfl) hS (fun w' hSw => ?_) (by rfl) (fun hS => ?_)
  · go_simp
  try simp only [Act.put, List.setIfInBounds_toArray, List.set_cons_zero, List.set_cons_succ]
  refine wpAnyS_take (i := 9) (KeepV w0 #[Value.string e1, .string v1, .string r1] #[Value.string e2, .string v2, .string r2]) (v := .string v2) rfl (by kernel_rfl) (by kernel_rfl) (by kernel_rfl) (fun _ _ _ h => h) (fun _ _ _ h => h) (fun _ _ => Iff.rfl) (by kernel_rfl) hS (fun w' hSw => ?_) (by rfl) (fun hS => ?_)
  · have c : w'.cell? ⟨w0.heap.size + 1, 1, none⟩ = some (.string v2) := hSw.2.1.cell 1
    go_simp
  try simp only [Act.put, List.setIfInBounds_toArray, List.set_cons_zero, List.set_cons_succ]
  refine wpAnyS_one (i := 4) (by kernel_rfl) rfl (fun K hK => ?_)
  go_simp
  refine (CN.out _).mono ?_
  rintro e w3 ⟨rfl, hb3⟩
  refine hK.out _ _ (hS.below hb3) (fun hS => ?_)
  clear hK K
  try simp only [Act.put, List.setIfInBounds_toArray, List.set_cons_zero, List.set_cons_succ]
  refine wpAnyS_one (i := 10) (by kernel_rfl) rfl (fun K hK => ?_)
  go_simp
  refine (CT.out _).mono ?_
  rintro e w4 ⟨rfl, hb4⟩
  refine hK.out _ _ (hS.below hb4) (fun hS => ?_)
  clear hK K
  try simp only [Act.put, List.setIfInBounds_toArray, List.set_cons_zero, List.set_cons_succ]
  refine wpAnyS_one (i := 11) (by kernel_rfl) rfl (fun K hK => ?_)
  go_simp
  refine hK.out _ _ (hS.below ((Below.refl _ _).alloc (Nat.le_refl _) _)) (fun hS => ?_)
  clear hK K
  try simp only [Act.put, List.setIfInBounds_toArray, List.set_cons_zero, List.set_cons_succ]
  have B5 := Blk.new w4 3 #[.int .i64 (cmpNum e1.data.toList e2.data.toList), .int .i64 (cmpTxt kind v1.data.toList v2.data.toList)]
  refine wpAnyS_one (i := 12) (by kernel_rfl) rfl (fun K hK => ?_)
  go_simp
  refine (or_any _ (cmpNum e1.data.toList e2.data.toList) (cmpTxt kind v1.data.toList v2.data.toList) _ (B5.cell 0) (B5.cell 1)).mono ?_
  rintro e w5 ⟨rfl, rfl⟩
  refine hK.out _ _ hS (fun hS => ?_)
  clear hK K
  try simp only [Act.put, List.setIfInBounds_toArray, List.set_cons_zero, List.set_cons_succ]
  refine wpAnyS_one (i := 13) (by kernel_rfl) rfl (fun K hK => ?_)
  go_simp
  refine hK.out _ _ hS (fun hS => ?_)
  clear hK K
  try simp only [Act.put, List.setIfInBounds_toArray, List.set_cons_zero, List.set_cons_succ]
  refine wpAnyS_done (by kernel_rfl) ?_ _
  go_wp2_with fail
  go_ret
  exact ⟨rfl, hS.2.2⟩
end Go.Proofs.YtpmfmkpfjomgnaaGreatDoor

/- Two versions compared: Compare. -/
namespace Go.Proofs.YtpmfmkpfjomgnaaGreatDoor
set_option linter.unusedSimpArgs false
set_option linter.unusedVariables false
open Go.RowKit

/-- What Compare answers. -/
def cmpO (kind : Int) (A B : Option Parts) : Int := match A, B with
  | some p, some q => if kindV kind then cmpEvr kind p q else 0
  | _, _ => 0
theorem both_zero {kind : Int} {A B : Option Parts} (h : bothErr kind A B = 0) : kindV kind = true ∧ ∃ p q, A = some p ∧ B = some q := by
  unfold bothErr at h
  split at h
  · rename_i hk
    split at h
    · rename_i hs
      simp only [Bool.and_eq_true, Option.isSome_iff_exists] at hs
      obtain ⟨⟨p, hp⟩, q, hq⟩ := hs
      exact ⟨hk, p, q, hp, hq⟩
    · cases h
  · cases h
theorem cmpO_bad {kind : Int} {A B : Option Parts} (h : bothErr kind A B ≠ 0) : cmpO kind A B = 0 := by
  unfold cmpO
  split
  · rename_i p q
    split
    · rename_i hk
      exact absurd (by unfold bothErr; rw [if_pos hk]; rfl) h
    · rfl
  · rfl


end Go.Proofs.YtpmfmkpfjomgnaaGreatDoor
