/- What Debian says of two texts: compareDeb. -/
import Derived.Test.YtbfpljlgjpmmmaaDoorNum
import Derived.Test.YtbfpljlgjpmmmaaDoorScope
namespace Go.Proofs.YtbfpljlgjpmmmaaDoor
set_option linter.unusedSimpArgs false
set_option linter.unusedVariables false
open Go.RowKit

def lenAt (w : World) (p : Addr) : Nat := match w.cell? p with | some (.string s) => s.size | _ => 0
theorem lenAt_of {w : World} {p : Addr} {s : ByteArray} (h : w.cell? p = some (.string s)) : lenAt w p = s.size := by unfold lenAt; rw [h]

/-- The two texts' rest in memory, which compare as the whole did. -/
def TwoD (w0 : World) (a0 b0 : ByteArray) (w : World) : Prop :=
  ∃ a b : ByteArray, Blk w w0.heap.size 9 #[.string a] ∧ Blk w (w0.heap.size + 1) 9 #[.string b] ∧ a.size ≤ maxLen ∧ b.size ≤ maxLen ∧ cmpDeb a.data.toList b.data.toList = cmpDeb a0.data.toList b0.data.toList ∧ Below w0.heap.size w0 w
def JD (w0 : World) (a0 b0 : ByteArray) (act : Act) (w : World) : Prop :=
  TwoD w0 a0 b0 w ∧ ∃ u4 u6 u7 u8 u9 u10 u11 u12 u13 u14 u15 u16 u17 u18 u19 u20 u21 u22 u23 u24 u25 u26 u27 u28 u29 u30 u31 u32 u33 u34 u35 u36 u37 u38 u39 u40 u41 u42 u43 u44 u45 u46 u47 u48 u49 u50 u51 u52 u53 u54 : Value, act = { tmps := #[.string a0, .string b0, .pointer (some ⟨w0.heap.size, 0, none⟩), .pointer (some ⟨w0.heap.size + 1, 0, none⟩), u4, .func (.func 79) #[] #[.pointer (some ⟨w0.heap.size, 0, none⟩), .pointer (some ⟨w0.heap.size + 1, 0, none⟩)], u6, u7, u8, u9, u10, u11, u12, u13, u14, u15, u16, u17, u18, u19, u20, u21, u22, u23, u24, u25, u26, u27, u28, u29, u30, u31, u32, u33, u34, u35, u36, u37, u38, u39, u40, u41, u42, u43, u44, u45, u46, u47, u48, u49, u50, u51, u52, u53, u54], defers := [] }
def PostD (w0 : World) (a0 b0 : ByteArray) (e : Ending) (w : World) : Prop := e = .returned (.int .i64 (cmpDeb a0.data.toList b0.data.toList)) ∧ Below w0.heap.size w0 w

set_option maxHeartbeats 4000000 in
set_option maxRecDepth 100000 in
theorem deb_any (a0 b0 : ByteArray) (ha0 : a0.size ≤ maxLen) (hb0 : b0.size ≤ maxLen) (w0 : World) :
    Calls Tryd.prog 58 #[.string a0, .string b0] w0 (PostD w0 a0 b0) := by
  go_enter Tryd.func58, Tryd.ntmps58
  go_wp2_with fail
  refine wp_scope_label 0 (JD w0 a0 b0) (fun _ w => lenAt w ⟨w0.heap.size, 0, none⟩ + lenAt w ⟨w0.heap.size + 1, 0, none⟩) rfl ?pass ?first
  case first =>
    intro H
    have HH := Lib.hid H
    clear H
    go_wp2_with fail
    go_step3
    rename_i K hK
    have B0 := (Blk.new w0 9 #[.string a0]).alloc (.cells #[.string b0] 9)
    have B1 := Blk.new' (w := w0.alloc (.cells #[.string a0] 9)) (g := w0.heap.size + 1) (t := 9) (cs := #[.string b0]) (by simp)
    refine hK _ _ (HH.out _ _ ⟨⟨a0, b0, B0, B1, ha0, hb0, rfl, ((Below.refl _ _).alloc (Nat.le_refl _) _).alloc (by simp) _⟩, ?_⟩)
    exact ⟨_, _, _, _, _, _, _, _, _, _, _, _, _, _, _, _, _, _, _, _, _, _, _, _, _, _, _, _, _, _, _, _, _, _, _, _, _, _, _, _, _, _, _, _, _, _, _, _, _, _, rfl⟩
  case pass =>
    rintro act w ⟨⟨a, b, hA, hB, ha, hb, hc, hbel⟩, u4, u6, u7, u8, u9, u10, u11, u12, u13, u14, u15, u16, u17, u18, u19, u20, u21, u22, u23, u24, u25, u26, u27, u28, u29, u30, u31, u32, u33, u34, u35, u36, u37, u38, u39, u40, u41, u42, u43, u44, u45, u46, u47, u48, u49, u50, u51, u52, u53, u54, rfl⟩
    have HA := Lib.hid hA
    have HB := Lib.hid hB
    have hlt := hB.lt
    have c0 : w.cell? ⟨w0.heap.size, 0, none⟩ = some (.string a) := hA.cell 0
    have c1 : w.cell? ⟨w0.heap.size + 1, 0, none⟩ = some (.string b) := hB.cell 0
    have CR := Lib.hid (restD_any w0.heap.size (w0.heap.size + 1) a b w c0 c1)
    have HC := Lib.hid hc
    have HBEL := Lib.hid hbel
    have LA := Lib.hid (lenAt_of c0)
    have LB := Lib.hid (lenAt_of c1)
    have hsz := hbel.size
    clear hA hB hc hbel
    unfold maxLen at ha hb
    have mono : ∀ (w1 : World), Below w.heap.size w w1 → Below w0.heap.size w0 w1 := fun _ h => HBEL.out.trans (h.mono (by omega))
    have HM := Lib.hid mono
    clear mono
    by_cases hr : rankD a.data.toList = rankD b.data.toList
    · by_cases h0 : rankD a.data.toList = 0
      · skip
        have hrb : rankD b.data.toList = 0 := hr ▸ h0
        rw [h0, hrb] at CR
        have na : (a.data.toList.takeWhile isDg).length ≤ a.size := by rw [← size_len]; exact while_le _
        have nb : (b.data.toList.takeWhile isDg).length ≤ b.size := by rw [← size_len]; exact while_le _
        have DA := Lib.hid (drop_of_while (p := isDg) a.data.toList)
        have DB := Lib.hid (drop_of_while (p := isDg) b.data.toList)
        have EA : Hid ((a.extract 0 (a.data.toList.takeWhile isDg).length).data.toList = numP a.data.toList) := (bl_upto _ _).trans (take_of_while _).symm
        have EB : Hid ((b.extract 0 (b.data.toList.takeWhile isDg).length).data.toList = numP b.data.toList) := (bl_upto _ _).trans (take_of_while _).symm
        have SA := deb_less h0
        have SB := deb_less hrb
        have HS := Lib.hid (And.intro SA SB)
        have CN := Lib.hid (fun w => num_any (a.extract 0 (a.data.toList.takeWhile isDg).length) (b.extract 0 (b.data.toList.takeWhile isDg).length) (by simp; unfold maxLen; omega) (by simp; unfold maxLen; omega) w)
        rw [EA.out, EB.out] at CN
        have RUNA := Lib.hid (fun w => run_any isDigit_any (enters_of Tryd.func37 (by kernel_rfl) rfl) a (by unfold maxLen; omega) w)
        have RUNB := Lib.hid (fun w => run_any isDigit_any (enters_of Tryd.func37 (by kernel_rfl) rfl) b (by unfold maxLen; omega) w)
        have RS := Lib.hid (fun (s : ByteArray) (h : s.size ≤ maxLen) w => run_any isDigit_any (enters_of Tryd.func37 (by kernel_rfl) rfl) s h w)
        have ma : a.size ≤ maxLen := by unfold maxLen; omega
        have mb : b.size ≤ maxLen := by unfold maxLen; omega
        have HNE := Lib.hid (fun h => HC.out.symm.trans (deb_num h0 hrb h))
        have HNX := Lib.hid (fun h => HC.out.symm.trans (deb_next h0 hrb h))
        generalize cmpNum (numP a.data.toList) (numP b.data.toList) = c at *
        clear SA SB hr h0 hrb c0 c1 RUNA RUNB EA EB
        go_wp2_with fail
        refine CR.out.mono ?_
        rintro e w1 ⟨rfl, hb1⟩
        have HA1 := Lib.hid (HA.out.below hb1 (by omega))
        have HB1 := Lib.hid (HB.out.below hb1 (by omega))
        have HW1 := Lib.hid (HM.out _ hb1)
        have c0 : w1.cell? ⟨w0.heap.size, 0, none⟩ = some (.string a) := HA1.out.cell 0
        have c1 : w1.cell? ⟨w0.heap.size + 1, 0, none⟩ = some (.string b) := HB1.out.cell 0
        clear hb1
        go_wp2_with fail
        go_quiet ((go_at_call 34; exact (RS.out _ (by assumption) _).mono fun _ _ h => ⟨h.1, _, h.2.symm⟩))
        generalize (a.data.toList.takeWhile isDg).length = n at *
        generalize (b.data.toList.takeWhile isDg).length = m at *
        have hlt1 : w0.heap.size + 1 < (w1.drewN nq).heap.size := HB1.out.lt
        have HA2 : Hid (Blk (w1.drewN nq) w0.heap.size 9 #[.string a]) := HA1.out
        have HB2 : Hid (Blk (w1.drewN nq) (w0.heap.size + 1) 9 #[.string b]) := HB1.out
        have HW2 : Hid (Below w0.heap.size w0 (w1.drewN nq)) := below_drewN' HW1.out _
        clear HA1 HB1 HW1 c0 c1
        generalize w1.drewN nq = w2 at *
        have c0 : w2.cell? ⟨w0.heap.size, 0, none⟩ = some (.string a) := HA2.out.cell 0
        have c1 : w2.cell? ⟨w0.heap.size + 1, 0, none⟩ = some (.string b) := HB2.out.cell 0
        clear RS ma mb
        go_wp2_with fail
        refine wp_region_still_tail 6 (by kernel_rfl) (by kernel_rfl) ?_
        simp only [List.take_succ_cons, List.take_zero, List.drop_succ_cons, List.drop_zero]
        still_step
        still_step
        still_step
        still_step
        still_step
        still_step
        refine wpStill_nil ?_
        go_wp2_with fail
        refine (CN.out _).mono ?_
        rintro e w3 ⟨rfl, hb3⟩
        have HA3 := Lib.hid ((show Blk w2.drew w0.heap.size 9 #[.string a] from HA2.out).below hb3 (by simpa using Nat.lt_of_succ_lt hlt1))
        have HB3 := Lib.hid ((show Blk w2.drew (w0.heap.size + 1) 9 #[.string b] from HB2.out).below hb3 (by simpa using hlt1))
        have HW3 : Hid (Below w0.heap.size w0 w3) := HW2.out.drew.trans (hb3.mono (by simp; omega))
        clear hb3 HA2 HB2 HW2 c0 c1
        have c0 : w3.cell? ⟨w0.heap.size, 0, none⟩ = some (.string a) := HA3.out.cell 0
        have c1 : w3.cell? ⟨w0.heap.size + 1, 0, none⟩ = some (.string b) := HB3.out.cell 0
        have f0 := HA3.out.free 0
        have f1 := HB3.out.free 0
        clear hlt1
        by_cases h0 : c = 0
        · subst h0
          have HX := Lib.hid (HNX.out rfl)
          clear HNE HNX
          have pa : (n : Int) ≤ (a.size : Int) := by omega
          have pb : (m : Int) ≤ (b.size : Int) := by omega
          go_wp2_with fail
          refine wp_region_S (Till [(6, ⟨w0.heap.size, 0, none⟩, .string a), (7, ⟨w0.heap.size + 1, 0, none⟩, .string b)]) (by kernel_rfl) (Till.two c0 c1) (fun hS => ?_)
          refine wpAnyS_take (i := 0) (fun w' => w'.cell? ⟨w0.heap.size, 0, none⟩ = some (.string a)) (v := .string a) rfl (by kernel_rfl) (by kernel_rfl) (by kernel_rfl) (fun _ _ _ h => h) (fun l w hw hS => hS.out (k := 6) (by simp) (hw 6 (by kernel_rfl))) (Till.io rfl) (by kernel_rfl) hS (fun w' hSw => ?_) (by rfl) (fun hS => ?_)
          · go_simp
          try simp only [Act.put, List.setIfInBounds_toArray, List.set_cons_zero, List.set_cons_succ]
          refine wpAnyS_take (i := 3) (fun w' => w'.cell? ⟨w0.heap.size + 1, 0, none⟩ = some (.string b)) (v := .string b) rfl (by kernel_rfl) (by kernel_rfl) (by kernel_rfl) (fun _ _ _ h => h) (fun l w hw hS => hS.out (k := 7) (by simp) (hw 7 (by kernel_rfl))) (Till.io rfl) (by kernel_rfl) hS (fun w' hSw => ?_) (by rfl) (fun hS => ?_)
          · go_simp
          try simp only [Act.put, List.setIfInBounds_toArray, List.set_cons_zero, List.set_cons_succ]
          refine wpAnyS_take (i := 1) (fun _ => True) (v := .int .i64 n) rfl (by kernel_rfl) (by kernel_rfl) (by kernel_rfl) (fun _ _ _ h => h) (fun _ _ _ _ => trivial) (Till.io rfl) (by kernel_rfl) hS (fun w' hSw => ?_) (by rfl) (fun hS => ?_)
          · go_simp
          try simp only [Act.put, List.setIfInBounds_toArray, List.set_cons_zero, List.set_cons_succ]
          refine wpAnyS_take (i := 4) (fun _ => True) (v := .int .i64 m) rfl (by kernel_rfl) (by kernel_rfl) (by kernel_rfl) (fun _ _ _ h => h) (fun _ _ _ _ => trivial) (Till.io rfl) (by kernel_rfl) hS (fun w' hSw => ?_) (by rfl) (fun hS => ?_)
          · go_simp
          try simp only [Act.put, List.setIfInBounds_toArray, List.set_cons_zero, List.set_cons_succ]
          refine wpAnyS_take (i := 2) (fun _ => True) (v := .string (a.extract n a.size)) rfl (by kernel_rfl) (by kernel_rfl) (by kernel_rfl) (fun _ _ _ h => h) (fun _ _ _ _ => trivial) (Till.io rfl) (by kernel_rfl) hS (fun w' hSw => ?_) (by rfl) (fun hS => ?_)
          · go_simp
          try simp only [Act.put, List.setIfInBounds_toArray, List.set_cons_zero, List.set_cons_succ]
          refine wpAnyS_take (i := 5) (fun _ => True) (v := .string (b.extract m b.size)) rfl (by kernel_rfl) (by kernel_rfl) (by kernel_rfl) (fun _ _ _ h => h) (fun _ _ _ _ => trivial) (Till.io rfl) (by kernel_rfl) hS (fun w' hSw => ?_) (by rfl) (fun hS => ?_)
          · go_simp
          try simp only [Act.put, List.setIfInBounds_toArray, List.set_cons_zero, List.set_cons_succ]
          refine wpAnyS_one (i := 6) (by kernel_rfl) rfl (fun K hK => ?_)
          go_simp
          refine hK.out _ _ (hS.store1 (of_decide_eq_true (by kernel_rfl)) (by decide) (World.cell?_setCell_far _ _ _ _ (by simp))) (fun hS => ?_)
          clear hK K
          try simp only [Act.put, List.setIfInBounds_toArray, List.set_cons_zero, List.set_cons_succ]
          refine wpAnyS_one (i := 7) (by kernel_rfl) rfl (fun K hK => ?_)
          go_simp
          refine hK.out _ _ (Till.store2 (by kernel_rfl) (of_decide_eq_true (by kernel_rfl))) (fun hS => ?_)
          clear hK K
          try simp only [Act.put, List.setIfInBounds_toArray, List.set_cons_zero, List.set_cons_succ]
          refine wpAnyS_done (by kernel_rfl) ?_ _
          clear hS
          have BA : Blk ((w3.setCell ⟨w0.heap.size, 0, none⟩ (.string (a.extract n a.size))).setCell ⟨w0.heap.size + 1, 0, none⟩ (.string (b.extract m b.size))) w0.heap.size 9 #[.string (a.extract n a.size)] := (HA3.out.set_ 0 _).far (by simp) _
          have BB : Blk ((w3.setCell ⟨w0.heap.size, 0, none⟩ (.string (a.extract n a.size))).setCell ⟨w0.heap.size + 1, 0, none⟩ (.string (b.extract m b.size))) (w0.heap.size + 1) 9 #[.string (b.extract m b.size)] := (HB3.out.far (by simp) _).set_ 0 _
          have HT : Hid (Below w0.heap.size w0 ((w3.setCell ⟨w0.heap.size, 0, none⟩ (.string (a.extract n a.size))).setCell ⟨w0.heap.size + 1, 0, none⟩ (.string (b.extract m b.size)))) := (HW3.out.setCell (by simp) _).setCell (by simp) _
          generalize ((w3.setCell ⟨w0.heap.size, 0, none⟩ (.string (a.extract n a.size))).setCell ⟨w0.heap.size + 1, 0, none⟩ (.string (b.extract m b.size))) = w4 at *
          have LA2 := Lib.hid (lenAt_of (BA.cell 0))
          have LB2 := Lib.hid (lenAt_of (BB.cell 0))
          have XA : Hid ((a.extract n a.size).data.toList = a.data.toList.dropWhile isDg) := (bl_from _ _).trans DA.out.symm
          have XB : Hid ((b.extract m b.size).data.toList = b.data.toList.dropWhile isDg) := (bl_from _ _).trans DB.out.symm
          have HS2 : Hid (((a.extract n a.size).size ≠ 0 → (a.extract n a.size).size < a.size) ∧ ((b.extract m b.size).size ≠ 0 → (b.extract m b.size).size < b.size)) := by
            have h := HS.out
            rw [← XA.out, ← XB.out, size_len, size_len, size_len, size_len] at h
            exact ⟨fun h1 => h.1 (fun e => h1 (by rw [← size_len, e]; rfl)), fun h1 => h.2 (fun e => h1 (by rw [← size_len, e]; rfl))⟩
          have SZA : (a.extract n a.size).size ≤ a.size := by simp
          have SZB : (b.extract m b.size).size ≤ b.size := by simp
          rw [← XA.out, ← XB.out] at HX
          clear c0 c1 f0 f1 HA3 HB3 HW3 DA DB XA XB HS pa pb CR CN
          generalize a.extract n a.size = a' at *
          generalize b.extract m b.size = b' at *
          have c0 : w4.cell? ⟨w0.heap.size, 0, none⟩ = some (.string a') := BA.cell 0
          have c1 : w4.cell? ⟨w0.heap.size + 1, 0, none⟩ = some (.string b') := BB.cell 0
          have BA := Lib.hid BA
          have BB := Lib.hid BB
          by_cases z1 : a'.size = 0
          · obtain rfl := empty_of z1
            by_cases z2 : b'.size = 0
            · obtain rfl := empty_of z2
              clear z1 z2 SZA SZB
              go_wp2_with fail
              simp only [Exit.jump]
              go_ret
              exact ⟨by rw [HX.out]; rfl, HT.out.drew⟩
            · have he := toList_cons (s := b') (by omega)
              have he2 : b'.toList ≠ [] := by intro h; rw [h] at he; cases he
              have LT := HS2.out.2 z2
              clear z1 z2 HS2
              have SZA : (0 : Nat) ≤ a.size := Nat.zero_le _
              go_wp2_with fail
              go_step3
              refine ⟨rfl, ⟨⟨_, _, BA.out, BB.out, ?_, ?_, ?_, HT.out.drew⟩, _, _, _, _, _, _, _, _, _, _, _, _, _, _, _, _, _, _, _, _, _, _, _, _, _, _, _, _, _, _, _, _, _, _, _, _, _, _, _, _, _, _, _, _, _, _, _, _, _, _, rfl⟩, ?_⟩
              · exact Nat.zero_le _
              · unfold maxLen; omega
              · exact HX.out.symm
              · show lenAt w4 _ + lenAt w4 _ < _
                rw [LA.out, LB.out, LA2.out, LB2.out]
                have z : (⟨#[]⟩ : ByteArray).size = 0 := rfl
                omega
          · have he := toList_cons (s := a') (by omega)
            have he2 : a'.toList ≠ [] := by intro h; rw [h] at he; cases he
            have LT := HS2.out.1 z1
            clear z1 HS2
            go_wp2_with fail
            go_step3
            refine ⟨rfl, ⟨⟨_, _, BA.out, BB.out, ?_, ?_, ?_, HT.out.drew⟩, _, _, _, _, _, _, _, _, _, _, _, _, _, _, _, _, _, _, _, _, _, _, _, _, _, _, _, _, _, _, _, _, _, _, _, _, _, _, _, _, _, _, _, _, _, _, _, _, _, _, rfl⟩, ?_⟩
            · unfold maxLen; omega
            · unfold maxLen; omega
            · exact HX.out.symm
            · show lenAt w4 _ + lenAt w4 _ < _
              rw [LA.out, LB.out, LA2.out, LB2.out]; omega
        · have t1 : (c == 0) = false := by simpa using h0
          have t2 : (c != 0) = true := by simpa using h0
          have HX := Lib.hid (HNE.out h0)
          clear HNE HNX h0 c0 c1 f0 f1
          go_wp2_with fail
          simp only [Exit.jump]
          go_ret
          exact ⟨by rw [HX.out]; rfl, HW3.out⟩
      · obtain ⟨e1, e2, e3⟩ := deb_tail hr h0
        rw [← hr] at CR
        have HT0 := Lib.hid (HC.out.symm.trans e1)
        have hpa : 0 < a.size := by rw [← size_len]; exact List.length_pos_iff.2 e2
        have hpb : 0 < b.size := by rw [← size_len]; exact List.length_pos_iff.2 e3
        have ia : (1 : Int) ≤ (a.size : Int) := by omega
        have ib : (1 : Int) ≤ (b.size : Int) := by omega
        have t0 : (rankD a.data.toList == 0) = false := by simpa using h0
        have t1 : (rankD a.data.toList != 0) = true := by simpa using h0
        clear hr h0 e1 e2 e3
        generalize rankD a.data.toList = ra at *
        clear c0 c1
        go_wp2_with fail
        refine CR.out.mono ?_
        rintro e w1 ⟨rfl, hb1⟩
        have HA1 := Lib.hid (HA.out.below hb1 (by omega))
        have HB1 := Lib.hid (HB.out.below hb1 (by omega))
        have HW1 := Lib.hid (HM.out _ hb1)
        have c0 : w1.cell? ⟨w0.heap.size, 0, none⟩ = some (.string a) := HA1.out.cell 0
        have c1 : w1.cell? ⟨w0.heap.size + 1, 0, none⟩ = some (.string b) := HB1.out.cell 0
        have f0 := HA1.out.free 0
        have f1 := HB1.out.free 0
        clear hb1
        go_wp2_with fail
        refine wp_region_S (Till [(4, ⟨w0.heap.size, 0, none⟩, .string a), (5, ⟨w0.heap.size + 1, 0, none⟩, .string b)]) (by kernel_rfl) (Till.two c0 c1) (fun hS => ?_)
        refine wpAnyS_take (i := 0) (fun w' => w'.cell? ⟨w0.heap.size, 0, none⟩ = some (.string a)) (v := .string a) rfl (by kernel_rfl) (by kernel_rfl) (by kernel_rfl) (fun _ _ _ h => h) (fun l w hw hS => hS.out (k := 4) (by simp) (hw 4 (by kernel_rfl))) (Till.io rfl) (by kernel_rfl) hS (fun w' hSw => ?_) (by rfl) (fun hS => ?_)
        · go_simp
        try simp only [Act.put, List.setIfInBounds_toArray, List.set_cons_zero, List.set_cons_succ]
        refine wpAnyS_take (i := 2) (fun w' => w'.cell? ⟨w0.heap.size + 1, 0, none⟩ = some (.string b)) (v := .string b) rfl (by kernel_rfl) (by kernel_rfl) (by kernel_rfl) (fun _ _ _ h => h) (fun l w hw hS => hS.out (k := 5) (by simp) (hw 5 (by kernel_rfl))) (Till.io rfl) (by kernel_rfl) hS (fun w' hSw => ?_) (by rfl) (fun hS => ?_)
        · go_simp
        try simp only [Act.put, List.setIfInBounds_toArray, List.set_cons_zero, List.set_cons_succ]
        refine wpAnyS_take (i := 1) (fun _ => True) (v := .string (a.extract 1 a.size)) rfl (by kernel_rfl) (by kernel_rfl) (by kernel_rfl) (fun _ _ _ h => h) (fun _ _ _ _ => trivial) (Till.io rfl) (by kernel_rfl) hS (fun w' hSw => ?_) (by rfl) (fun hS => ?_)
        · go_simp
        try simp only [Act.put, List.setIfInBounds_toArray, List.set_cons_zero, List.set_cons_succ]
        refine wpAnyS_take (i := 3) (fun _ => True) (v := .string (b.extract 1 b.size)) rfl (by kernel_rfl) (by kernel_rfl) (by kernel_rfl) (fun _ _ _ h => h) (fun _ _ _ _ => trivial) (Till.io rfl) (by kernel_rfl) hS (fun w' hSw => ?_) (by rfl) (fun hS => ?_)
        · go_simp
        try simp only [Act.put, List.setIfInBounds_toArray, List.set_cons_zero, List.set_cons_succ]
        refine wpAnyS_one (i := 4) (by kernel_rfl) rfl (fun K hK => ?_)
        go_simp
        refine hK.out _ _ (hS.store1 (of_decide_eq_true (by kernel_rfl)) (by decide) (World.cell?_setCell_far _ _ _ _ (by simp))) (fun hS => ?_)
        clear hK K
        try simp only [Act.put, List.setIfInBounds_toArray, List.set_cons_zero, List.set_cons_succ]
        refine wpAnyS_one (i := 5) (by kernel_rfl) rfl (fun K hK => ?_)
        go_simp
        refine hK.out _ _ (Till.store2 (by kernel_rfl) (of_decide_eq_true (by kernel_rfl))) (fun hS => ?_)
        clear hK K
        try simp only [Act.put, List.setIfInBounds_toArray, List.set_cons_zero, List.set_cons_succ]
        refine wpAnyS_done (by kernel_rfl) ?_ _
        clear hS
        have BA : Blk ((w1.setCell ⟨w0.heap.size, 0, none⟩ (.string (a.extract 1 a.size))).setCell ⟨w0.heap.size + 1, 0, none⟩ (.string (b.extract 1 b.size))) w0.heap.size 9 #[.string (a.extract 1 a.size)] := (HA1.out.set_ 0 _).far (by simp) _
        have BB : Blk ((w1.setCell ⟨w0.heap.size, 0, none⟩ (.string (a.extract 1 a.size))).setCell ⟨w0.heap.size + 1, 0, none⟩ (.string (b.extract 1 b.size))) (w0.heap.size + 1) 9 #[.string (b.extract 1 b.size)] := (HB1.out.far (by simp) _).set_ 0 _
        have HT : Hid (Below w0.heap.size w0 ((w1.setCell ⟨w0.heap.size, 0, none⟩ (.string (a.extract 1 a.size))).setCell ⟨w0.heap.size + 1, 0, none⟩ (.string (b.extract 1 b.size)))) := (HW1.out.setCell (by simp) _).setCell (by simp) _
        generalize ((w1.setCell ⟨w0.heap.size, 0, none⟩ (.string (a.extract 1 a.size))).setCell ⟨w0.heap.size + 1, 0, none⟩ (.string (b.extract 1 b.size))) = w2 at *
        have LA2 := Lib.hid (lenAt_of (BA.cell 0))
        have LB2 := Lib.hid (lenAt_of (BB.cell 0))
        clear c0 c1 f0 f1
        go_wp2_with fail
        go_step3
        refine ⟨rfl, ⟨⟨_, _, BA, BB, ?_, ?_, ?_, HT.out.drew⟩, _, _, _, _, _, _, _, _, _, _, _, _, _, _, _, _, _, _, _, _, _, _, _, _, _, _, _, _, _, _, _, _, _, _, _, _, _, _, _, _, _, _, _, _, _, _, _, _, _, _, rfl⟩, ?_⟩
        · simp; unfold maxLen; omega
        · simp; unfold maxLen; omega
        · rw [bl_from, bl_from, List.drop_one, List.drop_one]; exact HT0.out.symm
        · show lenAt w2 _ + lenAt w2 _ < _
          rw [LA.out, LB.out, LA2.out, LB2.out]; simp; omega
    · have HR := Lib.hid (HC.out.symm.trans (deb_ne hr))
      have t1 : (rankD a.data.toList == rankD b.data.toList) = false := by simpa using hr
      have t2 : (rankD a.data.toList != rankD b.data.toList) = true := by simpa using hr
      clear hr HC
      generalize rankD a.data.toList = ra at *
      generalize rankD b.data.toList = rb at *
      have CI := Lib.hid (fun w => Tryd.cmp_Compare_int ra rb w)
      clear c0 c1
      go_wp2_with fail
      refine CR.out.mono ?_
      rintro e w1 ⟨rfl, hb1⟩
      have HB1 := Lib.hid hb1
      clear hb1
      go_wp2_with fail
      refine (CI.out _).mono ?_
      rintro e w2 ⟨rfl, rfl⟩
      go_wp2_with fail
      simp only [Exit.jump]
      go_ret
      exact ⟨by rw [HR.out]; rfl, HM.out _ HB1.out⟩
end Go.Proofs.YtbfpljlgjpmmmaaDoor
