/- A line is read as a job. -/
import Derived.Test.YtciogfpejenedaaGreatDoorJbF
namespace Go.Proofs.YtciogfpejenedaaGreatDoor
set_option linter.unusedSimpArgs false
set_option linter.unusedVariables false
open Go.RowKit

set_option maxHeartbeats 16000000 in
set_option maxRecDepth 100000 in
theorem jobParse_any (t : List UInt8) (ht : t.length ≤ 2000000) (w : World) (hW : JbW w) : Calls Tryz.prog 6 #[.string (mkS t)] w (ParseJ w (parseJ t)) := by
  obtain ⟨X, hX⟩ : ∃ X, X = parseJ t := ⟨_, rfl⟩
  rw [← hX]
  have HX : Hid (X = finJ (mkS t) (kindJ t) (howJ t) (textJ (howJ t) (tailJ t))) := hX
  obtain ⟨wa, hwa⟩ : ∃ wa, wa = w.alloc (.cells #[.int .i64 0, .int .i64 0, .string ⟨#[]⟩] 23) := ⟨_, rfl⟩
  have hba : Below w.heap.size w wa := by rw [hwa]; exact (Below.refl _ _).alloc (Nat.le_refl _) _
  have hja : Blk wa w.heap.size 23 #[.int .i64 0, .int .i64 0, .string ⟨#[]⟩] := by rw [hwa]; exact Blk.new _ _ _
  have HWA := Lib.hid (hW.below hba)
  have HBA := Lib.hid hba
  have HWS : Hid (5 ≤ w.heap.size) := hW.five
  have HJA := Lib.hid hja
  have C1 := Lib.hid (jbCut_any t (by omega) wa HWA.out.max)
  have hl1 := (cut_len_ t).2
  have hl2 := cut_len_ (restJ t)
  have hrl : (restJ t).length ≤ 2000000 := by show (Lib.cut t [32]).2.1.length ≤ _; omega
  have C2 := Lib.hid (fun n => jbCut_any (restJ t) (by omega) (wa.drewN n) HWA.out.max)
  have HTJ : Hid (∀ wx, JbW wx → Calls Tryz.prog 13 #[.string (tailJ t)] wx (OnePost (tailJ t) wx)) := fun wx hx => ofOne_any (tailJ t) (by show (mkS _).size ≤ _; rw [mk_len]; show (Lib.cut (restJ t) [32]).2.1.length ≤ _; omega) wx hx.tabs
  have hts : (tailJ t).size ≤ 2000000 := by show (mkS _).size ≤ _; rw [mk_len]; show (Lib.cut (restJ t) [32]).2.1.length ≤ _; omega
  have HTX : Hid ((textJ (howJ t) (tailJ t)).size ≤ 4194304) := by
    show (textJ _ _).size ≤ _
    unfold textJ
    split
    · have := oneX_size (tailJ t); omega
    · omega
  have HNK : Hid (∀ wx, Calls Tryz.prog 11 #[.agg #[.string ⟨#[]⟩, .string (mkS kw1), .string (mkS kw2), .string (mkS kw3), .string (mkS kw4), .string (mkS kw5), .string (mkS kw6), .string (mkS kw7)], .string (mkS (Lib.cut t [32]).1)] wx fun e w' => e = .returned (.int .i64 (kindJ t)) ∧ Below wx.heap.size wx w') := fun wx => numK_any _ wx
  have HNH : Hid (∀ wx, Calls Tryz.prog 12 #[.agg #[.string ⟨#[]⟩, .string (mkS hw1), .string (mkS hw2), .string (mkS hw3), .string (mkS hw4), .string (mkS hw5)], .string (mkS (Lib.cut (restJ t) [32]).1)] wx fun e w' => e = .returned (.int .i64 (howJ t)) ∧ Below wx.heap.size wx w') := fun wx => numH_any _ wx
  clear hX hba hja hW hl1 hl2 hrl hts
  rw [show (Lib.cut t [32]).2.1 = restJ t from rfl] at C1
  rw [show mkS (Lib.cut (restJ t) [32]).2.1 = tailJ t from rfl] at C2
  generalize hLN : mkS t = LN at *
  generalize mkS (Lib.cut t [32]).1 = W1 at *
  generalize mkS (restJ t) = W2 at *
  generalize mkS (Lib.cut (restJ t) [32]).1 = W3 at *
  generalize (Lib.cut t [32]).2.2 = B1 at *
  generalize (Lib.cut (restJ t) [32]).2.2 = B2 at *
  generalize tailJ t = T0 at *
  generalize kindJ t = k at *
  generalize howJ t = h at *
  clear hLN ht
  go_enter Tryz.func6, Tryz.ntmps6
  go_upto_region 1 with fail
  rw [← hwa]
  clear hwa
  go_wp2_with fail
  refine C1.out.mono ?_
  rintro e w1 ⟨rfl, n1, rfl⟩
  go_wp2_with fail
  refine (C2.out n1).mono ?_
  rintro e w2 ⟨rfl, n2, rfl⟩
  obtain ⟨w2, hwq⟩ : ∃ w2, w2 = (wa.drewN n1).drewN n2 := ⟨_, rfl⟩
  have HB2 : Hid (Below w.heap.size w w2) := by rw [hwq]; exact ⟨HBA.out.os, HBA.out.tape, HBA.out.output, HBA.out.size, HBA.out.block⟩
  have HW2 : Hid (JbW w2) := by rw [hwq]; exact HWA.out.below ⟨rfl, rfl, rfl, Nat.le_refl _, fun _ _ => rfl⟩
  have HR2 : Hid (Blk w2 w.heap.size 23 #[.int .i64 0, .int .i64 0, .string ⟨#[]⟩]) := by rw [hwq]; exact HJA.out
  rw [← hwq]
  have HF : Hid (∀ wx, Below w2.heap.size w2 wx → KCells wx ∧ HCells wx) := fun wx hb => ⟨(HW2.out.below hb).kcells, (HW2.out.below hb).hcells⟩
  have HS2 := HR2.out.lt
  clear hwq C1 C2 HBA HJA HWA n1 n2
  go_upto_region 3 with fail
  refine wp_region_S (fun _ wx => Below w2.heap.size w2 wx) (by kernel_rfl) ((Below.refl _ _).drew) (fun hS => ?_)
  try simp only [List.getElem_toArray, List.getElem_cons_zero, List.getElem_cons_succ, Act.put, List.setIfInBounds_toArray, List.set_cons_zero, List.set_cons_succ]
  refine wpAnyS_take (i := 0) (fun wx => Below w2.heap.size w2 wx) (v := (.agg #[.string ⟨#[]⟩, .string (mkS kw1), .string (mkS kw2), .string (mkS kw3), .string (mkS kw4), .string (mkS kw5), .string (mkS kw6), .string (mkS kw7)])) rfl (by kernel_rfl) (by kernel_rfl) (by kernel_rfl) (fun _ _ _ h => h) (fun _ _ _ h => h) (fun _ _ => Iff.rfl) (by kernel_rfl) hS (fun wx hSw => ?_) (by kernel_rfl) ?_
  · obtain ⟨⟨a0, a1, a2, a3, a4, a5, a6, a7⟩, e0, e1, e2, e3, e4, e5⟩ := HF.out wx hSw
    go_simp
  clear hS
  intro hS
  try simp only [List.getElem_toArray, List.getElem_cons_zero, List.getElem_cons_succ, Act.put, List.setIfInBounds_toArray, List.set_cons_zero, List.set_cons_succ]
  refine wpAnyS_take (i := 1) (fun wx => Below w2.heap.size w2 wx) (v := (.string W1)) rfl (by kernel_rfl) (by kernel_rfl) (by kernel_rfl) (fun _ _ _ h => h) (fun _ _ _ h => h) (fun _ _ => Iff.rfl) (by kernel_rfl) hS (fun wx hSw => ?_) (by kernel_rfl) ?_
  · go_simp
  clear hS
  intro hS
  try simp only [List.getElem_toArray, List.getElem_cons_zero, List.getElem_cons_succ, Act.put, List.setIfInBounds_toArray, List.set_cons_zero, List.set_cons_succ]
  refine wpAnyS_take (i := 3) (fun wx => Below w2.heap.size w2 wx) (v := (.agg #[.string ⟨#[]⟩, .string (mkS hw1), .string (mkS hw2), .string (mkS hw3), .string (mkS hw4), .string (mkS hw5)])) rfl (by kernel_rfl) (by kernel_rfl) (by kernel_rfl) (fun _ _ _ h => h) (fun _ _ _ h => h) (fun _ _ => Iff.rfl) (by kernel_rfl) hS (fun wx hSw => ?_) (by kernel_rfl) ?_
  · obtain ⟨⟨a0, a1, a2, a3, a4, a5, a6, a7⟩, e0, e1, e2, e3, e4, e5⟩ := HF.out wx hSw
    go_simp
  clear hS
  intro hS
  try simp only [List.getElem_toArray, List.getElem_cons_zero, List.getElem_cons_succ, Act.put, List.setIfInBounds_toArray, List.set_cons_zero, List.set_cons_succ]
  refine wpAnyS_take (i := 4) (fun wx => Below w2.heap.size w2 wx) (v := (.string W3)) rfl (by kernel_rfl) (by kernel_rfl) (by kernel_rfl) (fun _ _ _ h => h) (fun _ _ _ h => h) (fun _ _ => Iff.rfl) (by kernel_rfl) hS (fun wx hSw => ?_) (by kernel_rfl) ?_
  · go_simp
  clear hS
  intro hS
  try simp only [List.getElem_toArray, List.getElem_cons_zero, List.getElem_cons_succ, Act.put, List.setIfInBounds_toArray, List.set_cons_zero, List.set_cons_succ]
  refine wpAnyS_take (i := 6) (fun wx => Below w2.heap.size w2 wx) (v := (.string T0)) rfl (by kernel_rfl) (by kernel_rfl) (by kernel_rfl) (fun _ _ _ h => h) (fun _ _ _ h => h) (fun _ _ => Iff.rfl) (by kernel_rfl) hS (fun wx hSw => ?_) (by kernel_rfl) ?_
  · go_simp
  clear hS
  intro hS
  try simp only [List.getElem_toArray, List.getElem_cons_zero, List.getElem_cons_succ, Act.put, List.setIfInBounds_toArray, List.set_cons_zero, List.set_cons_succ]
  refine wpAnyS_pick (i := 2) (j := 8) (by kernel_rfl) rfl rfl (fun K hK => ?_) (fun K hK => ?_)
  · skip
    go_simp
    refine (HNK.out _).mono ?_
    rintro e w3 ⟨rfl, hb⟩
    have Hw3 : Hid (Below w2.heap.size w2 w3) := hS.trans (hb.mono hS.size)
    refine hK.out _ _ Hw3.out ?_
    clear hS hK hb
    intro hS
    try simp only [List.getElem_toArray, List.getElem_cons_zero, List.getElem_cons_succ, Act.put, List.setIfInBounds_toArray, List.set_cons_zero, List.set_cons_succ]
    refine wpAnyS_pick (i := 5) (j := 8) (by kernel_rfl) rfl rfl (fun K hK => ?_) (fun K hK => ?_)
    · skip
      go_simp
      refine (HNH.out _).mono ?_
      rintro e w4 ⟨rfl, hb⟩
      have Hw4 : Hid (Below w2.heap.size w2 w4) := hS.trans (hb.mono hS.size)
      refine hK.out _ _ Hw4.out ?_
      clear hS hK hb
      intro hS
      try simp only [List.getElem_toArray, List.getElem_cons_zero, List.getElem_cons_succ, Act.put, List.setIfInBounds_toArray, List.set_cons_zero, List.set_cons_succ]
      refine wpAnyS_take (i := 7) (fun wx => Below w2.heap.size w2 wx) (v := (.agg #[.int .i64 k, .int .i64 h, .string T0])) rfl (by kernel_rfl) (by kernel_rfl) (by kernel_rfl) (fun _ _ _ h => h) (fun _ _ _ h => h) (fun _ _ => Iff.rfl) (by kernel_rfl) hS (fun wx hSw => ?_) (by kernel_rfl) ?_
      · go_simp
      clear hS
      intro hS
      try simp only [List.getElem_toArray, List.getElem_cons_zero, List.getElem_cons_succ, Act.put, List.setIfInBounds_toArray, List.set_cons_zero, List.set_cons_succ]
      refine wpAnyS_one (i := 8) (by kernel_rfl) rfl (fun K hK => ?_)
      go_simp
      have HBK : Hid (Blk (w4.alloc (.cells #[.int .i64 0, .int .i64 0, .string ⟨#[]⟩] 23)) w4.heap.size 23 #[.int .i64 0, .int .i64 0, .string ⟨#[]⟩]) := Blk.new w4 _ _
      have HBL : Hid (w2.heap.size ≤ w4.heap.size) := hS.size
      have hSA : Below w2.heap.size w2 (w4.alloc (.cells #[.int .i64 0, .int .i64 0, .string ⟨#[]⟩] 23)) := hS.alloc hS.size _
      refine hK.out _ _ hSA ?_
      clear hS hK hSA
      intro hS
      try simp only [List.getElem_toArray, List.getElem_cons_zero, List.getElem_cons_succ, Act.put, List.setIfInBounds_toArray, List.set_cons_zero, List.set_cons_succ]
      generalize w4.alloc (.cells #[.int .i64 0, .int .i64 0, .string ⟨#[]⟩] 23) = wA at *
      generalize w4.heap.size = b at *
      have z0 : wA.cell? ⟨b, 0, none⟩ = some (.int .i64 0) := HBK.out.cell 0
      have z1 : wA.cell? ⟨b, 1, none⟩ = some (.int .i64 0) := HBK.out.cell 1
      have z2 : wA.cell? ⟨b, 2, none⟩ = some (.string ⟨#[]⟩) := HBK.out.cell 2
      have y0 := HBK.out.free 0
      have y1 := HBK.out.free 1
      have y2 := HBK.out.free 2
      refine wpAnyS_one (i := 9) (by kernel_rfl) rfl (fun K hK => ?_)
      go_simp
      have hSB : Below w2.heap.size w2 (three wA b k h T0) := hS.trans ((three_turned wA b k h T0).below (fun k hk => by rw [List.mem_singleton.1 hk]; exact HBL.out) hS.size)
      have HZ := Lib.hid (three_blk HBK.out k h T0)
      unfold three at hSB HZ
      refine hK.out _ _ hSB ?_
      clear hS hK HBK z0 z1 z2 y0 y1 y2
      intro hS
      try simp only [List.getElem_toArray, List.getElem_cons_zero, List.getElem_cons_succ, Act.put, List.setIfInBounds_toArray, List.set_cons_zero, List.set_cons_succ]
      refine wpAnyS_done (by kernel_rfl) ?_ _
      try simp only [List.getElem_toArray, List.getElem_cons_zero, List.getElem_cons_succ, Act.put, List.setIfInBounds_toArray, List.set_cons_zero, List.set_cons_succ]
      generalize ((wA.setCell ⟨b, 0, none⟩ (.int .i64 k)).setCell ⟨b, 1, none⟩ (.int .i64 h)).setCell ⟨b, 2, none⟩ (.string T0) = wz at *
      have HBZ := Lib.hid (HB2.out.trans (hS.mono HB2.out.size))
      have HWZ := Lib.hid (HW2.out.below hS)
      have HRZ := Lib.hid (Blk.below HR2.out hS HR2.out.lt)
      have hnb : w.heap.size < b := by have := HBL.out; omega
      clear hS hSB HF HNK HNH HW2 HB2 HR2
      have z0 : wz.cell? ⟨b, 0, none⟩ = some (.int .i64 k) := HZ.out.cell 0
      have z1 : wz.cell? ⟨b, 1, none⟩ = some (.int .i64 h) := HZ.out.cell 1
      have z2 : wz.cell? ⟨b, 2, none⟩ = some (.string T0) := HZ.out.cell 2
      by_cases h3 : h = 3
      · skip
        have HXT : Hid (X = finJ LN k h (oneX T0)) := by show X = _; rw [HX.out]; unfold textJ; rw [if_pos h3]
        have HTS : Hid ((oneX T0).size ≤ 4194304) := by have := oneX_size T0; show _ ≤ _; omega
        have q3 : (h == 3) = true := by simp [h3]
        have CO := Lib.hid (HTJ.out wz HWZ.out)
        have H3 := Lib.hid h3
        unfold OnePost at CO
        clear HTJ HX HTX h3
        generalize oneX T0 = T at *
        go_wp2_with fail
        refine CO.out.mono ?_
        rintro e w5 ⟨hb5, k5, n5, o5, ev5, A5, l5, c5, rfl⟩
        have HZ5 := Lib.hid (Blk.below HZ.out hb5 HZ.out.lt)
        have z0 : w5.cell? ⟨b, 0, none⟩ = some (.int .i64 k) := HZ5.out.cell 0
        have z1 : w5.cell? ⟨b, 1, none⟩ = some (.int .i64 h) := HZ5.out.cell 1
        have z2 : w5.cell? ⟨b, 2, none⟩ = some (.string T0) := HZ5.out.cell 2
        have y2 := HZ5.out.free 2
        have HZ6 : Hid (Blk (w5.setCell ⟨b, 2, none⟩ (.string T)) b 23 #[.int .i64 k, .int .i64 h, .string T]) := HZ5.out.set_ 2 (.string T)
        have HT6 : Turned [b] w5 (w5.setCell ⟨b, 2, none⟩ (.string T)) := (Turned.refl _ _).setCell (.inl (by simp)) _
        have HB6 : Hid (Below w.heap.size w (w5.setCell ⟨b, 2, none⟩ (.string T))) := (HBZ.out.trans (hb5.mono HBZ.out.size)).trans (HT6.below (fun k hk => by rw [List.mem_singleton.1 hk]; omega) (Nat.le_trans HBZ.out.size hb5.size))
        have HR6 : Hid (Blk (w5.setCell ⟨b, 2, none⟩ (.string T)) w.heap.size 23 #[.int .i64 0, .int .i64 0, .string ⟨#[]⟩]) := (Blk.below HRZ.out hb5 HRZ.out.lt).turned HT6 (by simp; omega)
        have HW6 : Hid (JbW (w5.setCell ⟨b, 2, none⟩ (.string T))) := (JbW.turned1 (HWZ.out.below hb5) HT6 (by have := HWS.out; omega))
        clear hb5 CO HZ HZ5 HBZ HRZ HWZ HT6
        go_upto_region 6 with fail
        generalize w5.setCell ⟨b, 2, none⟩ (.string T) = w6 at *
        have q3' : (h != 3) = false := by have := H3.out; simp [this]
        clear z0 z1 z2
        have z0 : w6.cell? ⟨b, 0, none⟩ = some (.int .i64 k) := HZ6.out.cell 0
        have z1 : w6.cell? ⟨b, 1, none⟩ = some (.int .i64 h) := HZ6.out.cell 1
        have z2 : w6.cell? ⟨b, 2, none⟩ = some (.string T) := HZ6.out.cell 2
        have CPR := Lib.hid (jobPrint_any k h T HTS.out w6 HW6.out)
        cases hm : mayX k h T with
        | false =>
          have HE : Hid (X = none) := by show X = _; rw [HXT.out]; unfold finJ; rw [if_neg (by rw [hm]; simp)]
          have e1 : printE k h T = ⟨#[]⟩ := by unfold printE; rw [hm]; rfl
          rw [hm, e1] at CPR
          have e2 : (if false = true then (0 : Int) else 140) = 140 := rfl
          rw [e2] at CPR
          clear hm e1 e2 HXT
          go_wp2_with fail
          refine CPR.out.mono ?_
          rintro e w7 ⟨rfl, hb7⟩
          have HZ7 := Lib.hid (Blk.below HZ6.out hb7 HZ6.out.lt)
          have HR7 := Lib.hid (Blk.below HR6.out hb7 HR6.out.lt)
          have HB7 := Lib.hid (HB6.out.trans (hb7.mono HB6.out.size))
          clear hb7 CPR z0 z1 z2
          have z0 : w7.cell? ⟨b, 0, none⟩ = some (.int .i64 k) := HZ7.out.cell 0
          have z1 : w7.cell? ⟨b, 1, none⟩ = some (.int .i64 h) := HZ7.out.cell 1
          have z2 : w7.cell? ⟨b, 2, none⟩ = some (.string T) := HZ7.out.cell 2
          have x0 : w7.cell? ⟨w.heap.size, 0, none⟩ = some (.int .i64 0) := HR7.out.cell 0
          have x1 : w7.cell? ⟨w.heap.size, 1, none⟩ = some (.int .i64 0) := HR7.out.cell 1
          have x2 : w7.cell? ⟨w.heap.size, 2, none⟩ = some (.string ⟨#[]⟩) := HR7.out.cell 2
          have g0 := HR7.out.free 0
          have g1 := HR7.out.free 1
          have g2 := HR7.out.free 2
          have HPZ : Hid (Below w.heap.size w (three w7 w.heap.size 0 0 ⟨#[]⟩)) := HB7.out.trans ((three_turned w7 w.heap.size 0 0 ⟨#[]⟩).below (fun k hk => by rw [List.mem_singleton.1 hk]; exact Nat.le_refl _) HB7.out.size)
          have HLZ : Hid _ := load_job (three_blk HR7.out 0 0 ⟨#[]⟩)
          clear HR7 HZ7 HB7
          unfold three at HPZ HLZ
          go_wp2_with fail
          refine bodyPost_ret (v := .tuple #[.agg #[.int .i64 0, .int .i64 0, .string ⟨#[]⟩], .int .i64 140]) ?_ rfl ⟨by rw [HE.out]; rfl, HPZ.out⟩
          exact results_cell2 rfl _ rfl rfl HLZ.out
        | true =>
          have e1 : printE k h T = printX k h T := by unfold printE; rw [hm]; rfl
          rw [hm, e1] at CPR
          have e2 : (if true = true then (0 : Int) else 140) = 0 := rfl
          rw [e2] at CPR
          have HE : Hid (X = some (k, h, T)) := by show X = _; rw [HXT.out]; unfold finJ; rw [if_pos ⟨hm, .inl H3.out⟩]
          clear hm e1 e2 HXT
          generalize printX k h T = P at *
          go_wp2_with fail
          refine CPR.out.mono ?_
          rintro e w7 ⟨rfl, hb7⟩
          have HZ7 := Lib.hid (Blk.below HZ6.out hb7 HZ6.out.lt)
          have HR7 := Lib.hid (Blk.below HR6.out hb7 HR6.out.lt)
          have HB7 := Lib.hid (HB6.out.trans (hb7.mono HB6.out.size))
          clear hb7 CPR z0 z1 z2
          have z0 : w7.cell? ⟨b, 0, none⟩ = some (.int .i64 k) := HZ7.out.cell 0
          have z1 : w7.cell? ⟨b, 1, none⟩ = some (.int .i64 h) := HZ7.out.cell 1
          have z2 : w7.cell? ⟨b, 2, none⟩ = some (.string T) := HZ7.out.cell 2
          have x0 : w7.cell? ⟨w.heap.size, 0, none⟩ = some (.int .i64 0) := HR7.out.cell 0
          have x1 : w7.cell? ⟨w.heap.size, 1, none⟩ = some (.int .i64 0) := HR7.out.cell 1
          have x2 : w7.cell? ⟨w.heap.size, 2, none⟩ = some (.string ⟨#[]⟩) := HR7.out.cell 2
          have g0 := HR7.out.free 0
          have g1 := HR7.out.free 1
          have g2 := HR7.out.free 2
          have y2 := HZ7.out.free 2
          have CC := Lib.hid (jbClone_any T w7 HTS.out)
          go_wp2_with fail
          refine CC.out.mono ?_
          rintro e w8 ⟨rfl, hb8⟩
          have HZ8 := Lib.hid (Blk.below HZ7.out hb8 HZ7.out.lt)
          have HR8 := Lib.hid (Blk.below HR7.out hb8 HR7.out.lt)
          have HB8 := Lib.hid (HB7.out.trans (hb8.mono HB7.out.size))
          clear hb8 CC z0 z1 z2 x0 x1 x2 g0 g1 g2 y2 HZ7 HR7 HB7
          obtain ⟨w9, hw9⟩ : ∃ w9, w9 = w8.setCell ⟨b, 2, none⟩ (.string T) := ⟨_, rfl⟩
          have HT9 : Turned [b] w8 w9 := by rw [hw9]; exact (Turned.refl _ _).setCell (.inl (by simp)) _
          have HZ9 : Hid (Blk w9 b 23 #[.int .i64 k, .int .i64 h, .string T]) := by rw [hw9]; exact HZ8.out.set_ 2 (.string T)
          have HR9 : Hid (Blk w9 w.heap.size 23 #[.int .i64 0, .int .i64 0, .string ⟨#[]⟩]) := HR8.out.turned HT9 (by simp; omega)
          have HB9 : Hid (Below w.heap.size w w9) := HB8.out.trans (HT9.below (fun k hk => by rw [List.mem_singleton.1 hk]; omega) HB8.out.size)
          have u2 : w8.cell? ⟨b, 2, none⟩ = some (.string T) := HZ8.out.cell 2
          have y2 := HZ8.out.free 2
          clear HZ8 HR8 HB8 HT9
          go_upto_region 10 with fail
          rw [← hw9]
          clear hw9 u2 y2
          have z0 : w9.cell? ⟨b, 0, none⟩ = some (.int .i64 k) := HZ9.out.cell 0
          have z1 : w9.cell? ⟨b, 1, none⟩ = some (.int .i64 h) := HZ9.out.cell 1
          have z2 : w9.cell? ⟨b, 2, none⟩ = some (.string T) := HZ9.out.cell 2
          have x0 : w9.cell? ⟨w.heap.size, 0, none⟩ = some (.int .i64 0) := HR9.out.cell 0
          have x1 : w9.cell? ⟨w.heap.size, 1, none⟩ = some (.int .i64 0) := HR9.out.cell 1
          have x2 : w9.cell? ⟨w.heap.size, 2, none⟩ = some (.string ⟨#[]⟩) := HR9.out.cell 2
          have g0 := HR9.out.free 0
          have g1 := HR9.out.free 1
          have g2 := HR9.out.free 2
          have HPZ : Hid (Below w.heap.size w (three w9 w.heap.size k h T)) := HB9.out.trans ((three_turned w9 w.heap.size k h T).below (fun k hk => by rw [List.mem_singleton.1 hk]; exact Nat.le_refl _) HB9.out.size)
          have HLZ : Hid _ := load_job (three_blk HR9.out k h T)
          clear HZ9 HR9 HB9
          unfold three at HPZ HLZ
          go_wp2_with fail
          refine bodyPost_ret (v := .tuple #[.agg #[.int .i64 k, .int .i64 h, .string T], .int .i64 0]) ?_ rfl ⟨by rw [HE.out]; rfl, HPZ.out⟩
          exact results_cell2 rfl _ rfl rfl HLZ.out
      · skip
        have HXT : Hid (X = finJ LN k h T0) := by show X = _; rw [HX.out]; unfold textJ; rw [if_neg h3]
        have HTS : Hid (T0.size ≤ 4194304) := by have := HTX.out; unfold textJ at this; rw [if_neg h3] at this; exact this
        have q3 : (h == 3) = false := by simp [h3]
        have q3' : (h != 3) = true := by simp [h3]
        have H3 := Lib.hid h3
        clear HTJ HX HTX h3
        have HB6 := HBZ
        have HZ6 := HZ
        have HR6 := HRZ
        have HW6 := HWZ
        go_upto_region 6 with fail
        clear z0 z1 z2
        have z0 : wz.cell? ⟨b, 0, none⟩ = some (.int .i64 k) := HZ6.out.cell 0
        have z1 : wz.cell? ⟨b, 1, none⟩ = some (.int .i64 h) := HZ6.out.cell 1
        have z2 : wz.cell? ⟨b, 2, none⟩ = some (.string T0) := HZ6.out.cell 2
        have CPR := Lib.hid (jobPrint_any k h T0 HTS.out wz HW6.out)
        cases hm : mayX k h T0 with
        | false =>
          have HE : Hid (X = none) := by show X = _; rw [HXT.out]; unfold finJ; rw [if_neg (by rw [hm]; simp)]
          have e1 : printE k h T0 = ⟨#[]⟩ := by unfold printE; rw [hm]; rfl
          rw [hm, e1] at CPR
          have e2 : (if false = true then (0 : Int) else 140) = 140 := rfl
          rw [e2] at CPR
          clear hm e1 e2 HXT
          go_wp2_with fail
          refine CPR.out.mono ?_
          rintro e w7 ⟨rfl, hb7⟩
          have HZ7 := Lib.hid (Blk.below HZ6.out hb7 HZ6.out.lt)
          have HR7 := Lib.hid (Blk.below HR6.out hb7 HR6.out.lt)
          have HB7 := Lib.hid (HB6.out.trans (hb7.mono HB6.out.size))
          clear hb7 CPR z0 z1 z2
          have z0 : w7.cell? ⟨b, 0, none⟩ = some (.int .i64 k) := HZ7.out.cell 0
          have z1 : w7.cell? ⟨b, 1, none⟩ = some (.int .i64 h) := HZ7.out.cell 1
          have z2 : w7.cell? ⟨b, 2, none⟩ = some (.string T0) := HZ7.out.cell 2
          have x0 : w7.cell? ⟨w.heap.size, 0, none⟩ = some (.int .i64 0) := HR7.out.cell 0
          have x1 : w7.cell? ⟨w.heap.size, 1, none⟩ = some (.int .i64 0) := HR7.out.cell 1
          have x2 : w7.cell? ⟨w.heap.size, 2, none⟩ = some (.string ⟨#[]⟩) := HR7.out.cell 2
          have g0 := HR7.out.free 0
          have g1 := HR7.out.free 1
          have g2 := HR7.out.free 2
          have HPZ : Hid (Below w.heap.size w (three w7 w.heap.size 0 0 ⟨#[]⟩)) := HB7.out.trans ((three_turned w7 w.heap.size 0 0 ⟨#[]⟩).below (fun k hk => by rw [List.mem_singleton.1 hk]; exact Nat.le_refl _) HB7.out.size)
          have HLZ : Hid _ := load_job (three_blk HR7.out 0 0 ⟨#[]⟩)
          clear HR7 HZ7 HB7
          unfold three at HPZ HLZ
          go_wp2_with fail
          refine bodyPost_ret (v := .tuple #[.agg #[.int .i64 0, .int .i64 0, .string ⟨#[]⟩], .int .i64 140]) ?_ rfl ⟨by rw [HE.out]; rfl, HPZ.out⟩
          exact results_cell2 rfl _ rfl rfl HLZ.out
        | true =>
          have e1 : printE k h T0 = printX k h T0 := by unfold printE; rw [hm]; rfl
          rw [hm, e1] at CPR
          have e2 : (if true = true then (0 : Int) else 140) = 0 := rfl
          rw [e2] at CPR
          by_cases hp : printX k h T0 = LN
          · have HE : Hid (X = some (k, h, T0)) := by show X = _; rw [HXT.out]; unfold finJ; rw [if_pos ⟨hm, .inr hp⟩]
            have t1 := str_yes hp
            clear hm e1 e2 HXT hp
            generalize printX k h T0 = P at *
            have t2 : (P.toList != LN.toList) = false := by simp only [bne]; rw [t1]; rfl
            go_wp2_with fail
            refine CPR.out.mono ?_
            rintro e w7 ⟨rfl, hb7⟩
            have HZ7 := Lib.hid (Blk.below HZ6.out hb7 HZ6.out.lt)
            have HR7 := Lib.hid (Blk.below HR6.out hb7 HR6.out.lt)
            have HB7 := Lib.hid (HB6.out.trans (hb7.mono HB6.out.size))
            clear hb7 CPR z0 z1 z2
            have z0 : w7.cell? ⟨b, 0, none⟩ = some (.int .i64 k) := HZ7.out.cell 0
            have z1 : w7.cell? ⟨b, 1, none⟩ = some (.int .i64 h) := HZ7.out.cell 1
            have z2 : w7.cell? ⟨b, 2, none⟩ = some (.string T0) := HZ7.out.cell 2
            have x0 : w7.cell? ⟨w.heap.size, 0, none⟩ = some (.int .i64 0) := HR7.out.cell 0
            have x1 : w7.cell? ⟨w.heap.size, 1, none⟩ = some (.int .i64 0) := HR7.out.cell 1
            have x2 : w7.cell? ⟨w.heap.size, 2, none⟩ = some (.string ⟨#[]⟩) := HR7.out.cell 2
            have g0 := HR7.out.free 0
            have g1 := HR7.out.free 1
            have g2 := HR7.out.free 2
            have y2 := HZ7.out.free 2
            have CC := Lib.hid (jbClone_any T0 w7 HTS.out)
            go_wp2_with fail
            refine CC.out.mono ?_
            rintro e w8 ⟨rfl, hb8⟩
            have HZ8 := Lib.hid (Blk.below HZ7.out hb8 HZ7.out.lt)
            have HR8 := Lib.hid (Blk.below HR7.out hb8 HR7.out.lt)
            have HB8 := Lib.hid (HB7.out.trans (hb8.mono HB7.out.size))
            clear hb8 CC z0 z1 z2 x0 x1 x2 g0 g1 g2 y2 HZ7 HR7 HB7
            obtain ⟨w9, hw9⟩ : ∃ w9, w9 = w8.setCell ⟨b, 2, none⟩ (.string T0) := ⟨_, rfl⟩
            have HT9 : Turned [b] w8 w9 := by rw [hw9]; exact (Turned.refl _ _).setCell (.inl (by simp)) _
            have HZ9 : Hid (Blk w9 b 23 #[.int .i64 k, .int .i64 h, .string T0]) := by rw [hw9]; exact HZ8.out.set_ 2 (.string T0)
            have HR9 : Hid (Blk w9 w.heap.size 23 #[.int .i64 0, .int .i64 0, .string ⟨#[]⟩]) := HR8.out.turned HT9 (by simp; omega)
            have HB9 : Hid (Below w.heap.size w w9) := HB8.out.trans (HT9.below (fun k hk => by rw [List.mem_singleton.1 hk]; omega) HB8.out.size)
            have u2 : w8.cell? ⟨b, 2, none⟩ = some (.string T0) := HZ8.out.cell 2
            have y2 := HZ8.out.free 2
            clear HZ8 HR8 HB8 HT9
            go_upto_region 10 with fail
            rw [← hw9]
            clear hw9 u2 y2
            have z0 : w9.cell? ⟨b, 0, none⟩ = some (.int .i64 k) := HZ9.out.cell 0
            have z1 : w9.cell? ⟨b, 1, none⟩ = some (.int .i64 h) := HZ9.out.cell 1
            have z2 : w9.cell? ⟨b, 2, none⟩ = some (.string T0) := HZ9.out.cell 2
            have x0 : w9.cell? ⟨w.heap.size, 0, none⟩ = some (.int .i64 0) := HR9.out.cell 0
            have x1 : w9.cell? ⟨w.heap.size, 1, none⟩ = some (.int .i64 0) := HR9.out.cell 1
            have x2 : w9.cell? ⟨w.heap.size, 2, none⟩ = some (.string ⟨#[]⟩) := HR9.out.cell 2
            have g0 := HR9.out.free 0
            have g1 := HR9.out.free 1
            have g2 := HR9.out.free 2
            have HPZ : Hid (Below w.heap.size w (three w9 w.heap.size k h T0)) := HB9.out.trans ((three_turned w9 w.heap.size k h T0).below (fun k hk => by rw [List.mem_singleton.1 hk]; exact Nat.le_refl _) HB9.out.size)
            have HLZ : Hid _ := load_job (three_blk HR9.out k h T0)
            clear HZ9 HR9 HB9
            unfold three at HPZ HLZ
            go_wp2_with fail
            refine bodyPost_ret (v := .tuple #[.agg #[.int .i64 k, .int .i64 h, .string T0], .int .i64 0]) ?_ rfl ⟨by rw [HE.out]; rfl, HPZ.out⟩
            exact results_cell2 rfl _ rfl rfl HLZ.out
          · have HE : Hid (X = none) := by show X = _; rw [HXT.out]; unfold finJ; rw [if_neg (fun hh => by rcases hh.2 with h1 | h1; exact H3.out h1; exact hp h1)]
            have t1 := str_ne hp
            clear hm e1 e2 HXT hp
            generalize printX k h T0 = P at *
            have t2 : (P.toList != LN.toList) = true := by simp only [bne]; rw [t1]; rfl
            go_wp2_with fail
            refine CPR.out.mono ?_
            rintro e w7 ⟨rfl, hb7⟩
            have HZ7 := Lib.hid (Blk.below HZ6.out hb7 HZ6.out.lt)
            have HR7 := Lib.hid (Blk.below HR6.out hb7 HR6.out.lt)
            have HB7 := Lib.hid (HB6.out.trans (hb7.mono HB6.out.size))
            clear hb7 CPR z0 z1 z2
            have z0 : w7.cell? ⟨b, 0, none⟩ = some (.int .i64 k) := HZ7.out.cell 0
            have z1 : w7.cell? ⟨b, 1, none⟩ = some (.int .i64 h) := HZ7.out.cell 1
            have z2 : w7.cell? ⟨b, 2, none⟩ = some (.string T0) := HZ7.out.cell 2
            have x0 : w7.cell? ⟨w.heap.size, 0, none⟩ = some (.int .i64 0) := HR7.out.cell 0
            have x1 : w7.cell? ⟨w.heap.size, 1, none⟩ = some (.int .i64 0) := HR7.out.cell 1
            have x2 : w7.cell? ⟨w.heap.size, 2, none⟩ = some (.string ⟨#[]⟩) := HR7.out.cell 2
            have g0 := HR7.out.free 0
            have g1 := HR7.out.free 1
            have g2 := HR7.out.free 2
            have HPZ : Hid (Below w.heap.size w (three w7 w.heap.size 0 0 ⟨#[]⟩)) := HB7.out.trans ((three_turned w7 w.heap.size 0 0 ⟨#[]⟩).below (fun k hk => by rw [List.mem_singleton.1 hk]; exact Nat.le_refl _) HB7.out.size)
            have HLZ : Hid _ := load_job (three_blk HR7.out 0 0 ⟨#[]⟩)
            clear HR7 HZ7 HB7
            unfold three at HPZ HLZ
            go_wp2_with fail
            refine bodyPost_ret (v := .tuple #[.agg #[.int .i64 0, .int .i64 0, .string ⟨#[]⟩], .int .i64 140]) ?_ rfl ⟨by rw [HE.out]; rfl, HPZ.out⟩
            exact results_cell2 rfl _ rfl rfl HLZ.out
    · skip
      go_simp
      have HBK : Hid (Blk (w3.alloc (.cells #[.int .i64 0, .int .i64 0, .string ⟨#[]⟩] 23)) w3.heap.size 23 #[.int .i64 0, .int .i64 0, .string ⟨#[]⟩]) := Blk.new w3 _ _
      have HBL : Hid (w2.heap.size ≤ w3.heap.size) := hS.size
      have hSA : Below w2.heap.size w2 (w3.alloc (.cells #[.int .i64 0, .int .i64 0, .string ⟨#[]⟩] 23)) := hS.alloc hS.size _
      refine hK.out _ _ hSA ?_
      clear hS hK hSA
      intro hS
      try simp only [List.getElem_toArray, List.getElem_cons_zero, List.getElem_cons_succ, Act.put, List.setIfInBounds_toArray, List.set_cons_zero, List.set_cons_succ]
      generalize w3.alloc (.cells #[.int .i64 0, .int .i64 0, .string ⟨#[]⟩] 23) = wA at *
      generalize w3.heap.size = b at *
      refine wpAnyS_one (i := 5) (by kernel_rfl) rfl (fun K hK => ?_)
      go_simp
      refine (HNH.out _).mono ?_
      rintro e w4 ⟨rfl, hb⟩
      have Hw4 : Hid (Below w2.heap.size w2 w4) := hS.trans (hb.mono hS.size)
      have HBK := Lib.hid (Blk.below HBK.out hb HBK.out.lt)
      refine hK.out _ _ Hw4.out ?_
      clear hS hK hb
      intro hS
      try simp only [List.getElem_toArray, List.getElem_cons_zero, List.getElem_cons_succ, Act.put, List.setIfInBounds_toArray, List.set_cons_zero, List.set_cons_succ]
      refine wpAnyS_take (i := 7) (fun wx => Below w2.heap.size w2 wx) (v := (.agg #[.int .i64 k, .int .i64 h, .string T0])) rfl (by kernel_rfl) (by kernel_rfl) (by kernel_rfl) (fun _ _ _ h => h) (fun _ _ _ h => h) (fun _ _ => Iff.rfl) (by kernel_rfl) hS (fun wx hSw => ?_) (by kernel_rfl) ?_
      · go_simp
      clear hS
      intro hS
      try simp only [List.getElem_toArray, List.getElem_cons_zero, List.getElem_cons_succ, Act.put, List.setIfInBounds_toArray, List.set_cons_zero, List.set_cons_succ]
      have z0 : w4.cell? ⟨b, 0, none⟩ = some (.int .i64 0) := HBK.out.cell 0
      have z1 : w4.cell? ⟨b, 1, none⟩ = some (.int .i64 0) := HBK.out.cell 1
      have z2 : w4.cell? ⟨b, 2, none⟩ = some (.string ⟨#[]⟩) := HBK.out.cell 2
      have y0 := HBK.out.free 0
      have y1 := HBK.out.free 1
      have y2 := HBK.out.free 2
      refine wpAnyS_one (i := 9) (by kernel_rfl) rfl (fun K hK => ?_)
      go_simp
      have hSB : Below w2.heap.size w2 (three w4 b k h T0) := hS.trans ((three_turned w4 b k h T0).below (fun k hk => by rw [List.mem_singleton.1 hk]; exact HBL.out) hS.size)
      have HZ := Lib.hid (three_blk HBK.out k h T0)
      unfold three at hSB HZ
      refine hK.out _ _ hSB ?_
      clear hS hK HBK z0 z1 z2 y0 y1 y2
      intro hS
      try simp only [List.getElem_toArray, List.getElem_cons_zero, List.getElem_cons_succ, Act.put, List.setIfInBounds_toArray, List.set_cons_zero, List.set_cons_succ]
      refine wpAnyS_done (by kernel_rfl) ?_ _
      try simp only [List.getElem_toArray, List.getElem_cons_zero, List.getElem_cons_succ, Act.put, List.setIfInBounds_toArray, List.set_cons_zero, List.set_cons_succ]
      generalize ((w4.setCell ⟨b, 0, none⟩ (.int .i64 k)).setCell ⟨b, 1, none⟩ (.int .i64 h)).setCell ⟨b, 2, none⟩ (.string T0) = wz at *
      have HBZ := Lib.hid (HB2.out.trans (hS.mono HB2.out.size))
      have HWZ := Lib.hid (HW2.out.below hS)
      have HRZ := Lib.hid (Blk.below HR2.out hS HR2.out.lt)
      have hnb : w.heap.size < b := by have := HBL.out; omega
      clear hS hSB HF HNK HNH HW2 HB2 HR2
      have z0 : wz.cell? ⟨b, 0, none⟩ = some (.int .i64 k) := HZ.out.cell 0
      have z1 : wz.cell? ⟨b, 1, none⟩ = some (.int .i64 h) := HZ.out.cell 1
      have z2 : wz.cell? ⟨b, 2, none⟩ = some (.string T0) := HZ.out.cell 2
      by_cases h3 : h = 3
      · skip
        have HXT : Hid (X = finJ LN k h (oneX T0)) := by show X = _; rw [HX.out]; unfold textJ; rw [if_pos h3]
        have HTS : Hid ((oneX T0).size ≤ 4194304) := by have := oneX_size T0; show _ ≤ _; omega
        have q3 : (h == 3) = true := by simp [h3]
        have CO := Lib.hid (HTJ.out wz HWZ.out)
        have H3 := Lib.hid h3
        unfold OnePost at CO
        clear HTJ HX HTX h3
        generalize oneX T0 = T at *
        go_wp2_with fail
        refine CO.out.mono ?_
        rintro e w5 ⟨hb5, k5, n5, o5, ev5, A5, l5, c5, rfl⟩
        have HZ5 := Lib.hid (Blk.below HZ.out hb5 HZ.out.lt)
        have z0 : w5.cell? ⟨b, 0, none⟩ = some (.int .i64 k) := HZ5.out.cell 0
        have z1 : w5.cell? ⟨b, 1, none⟩ = some (.int .i64 h) := HZ5.out.cell 1
        have z2 : w5.cell? ⟨b, 2, none⟩ = some (.string T0) := HZ5.out.cell 2
        have y2 := HZ5.out.free 2
        have HZ6 : Hid (Blk (w5.setCell ⟨b, 2, none⟩ (.string T)) b 23 #[.int .i64 k, .int .i64 h, .string T]) := HZ5.out.set_ 2 (.string T)
        have HT6 : Turned [b] w5 (w5.setCell ⟨b, 2, none⟩ (.string T)) := (Turned.refl _ _).setCell (.inl (by simp)) _
        have HB6 : Hid (Below w.heap.size w (w5.setCell ⟨b, 2, none⟩ (.string T))) := (HBZ.out.trans (hb5.mono HBZ.out.size)).trans (HT6.below (fun k hk => by rw [List.mem_singleton.1 hk]; omega) (Nat.le_trans HBZ.out.size hb5.size))
        have HR6 : Hid (Blk (w5.setCell ⟨b, 2, none⟩ (.string T)) w.heap.size 23 #[.int .i64 0, .int .i64 0, .string ⟨#[]⟩]) := (Blk.below HRZ.out hb5 HRZ.out.lt).turned HT6 (by simp; omega)
        have HW6 : Hid (JbW (w5.setCell ⟨b, 2, none⟩ (.string T))) := (JbW.turned1 (HWZ.out.below hb5) HT6 (by have := HWS.out; omega))
        clear hb5 CO HZ HZ5 HBZ HRZ HWZ HT6
        go_upto_region 6 with fail
        generalize w5.setCell ⟨b, 2, none⟩ (.string T) = w6 at *
        have q3' : (h != 3) = false := by have := H3.out; simp [this]
        clear z0 z1 z2
        have z0 : w6.cell? ⟨b, 0, none⟩ = some (.int .i64 k) := HZ6.out.cell 0
        have z1 : w6.cell? ⟨b, 1, none⟩ = some (.int .i64 h) := HZ6.out.cell 1
        have z2 : w6.cell? ⟨b, 2, none⟩ = some (.string T) := HZ6.out.cell 2
        have CPR := Lib.hid (jobPrint_any k h T HTS.out w6 HW6.out)
        cases hm : mayX k h T with
        | false =>
          have HE : Hid (X = none) := by show X = _; rw [HXT.out]; unfold finJ; rw [if_neg (by rw [hm]; simp)]
          have e1 : printE k h T = ⟨#[]⟩ := by unfold printE; rw [hm]; rfl
          rw [hm, e1] at CPR
          have e2 : (if false = true then (0 : Int) else 140) = 140 := rfl
          rw [e2] at CPR
          clear hm e1 e2 HXT
          go_wp2_with fail
          refine CPR.out.mono ?_
          rintro e w7 ⟨rfl, hb7⟩
          have HZ7 := Lib.hid (Blk.below HZ6.out hb7 HZ6.out.lt)
          have HR7 := Lib.hid (Blk.below HR6.out hb7 HR6.out.lt)
          have HB7 := Lib.hid (HB6.out.trans (hb7.mono HB6.out.size))
          clear hb7 CPR z0 z1 z2
          have z0 : w7.cell? ⟨b, 0, none⟩ = some (.int .i64 k) := HZ7.out.cell 0
          have z1 : w7.cell? ⟨b, 1, none⟩ = some (.int .i64 h) := HZ7.out.cell 1
          have z2 : w7.cell? ⟨b, 2, none⟩ = some (.string T) := HZ7.out.cell 2
          have x0 : w7.cell? ⟨w.heap.size, 0, none⟩ = some (.int .i64 0) := HR7.out.cell 0
          have x1 : w7.cell? ⟨w.heap.size, 1, none⟩ = some (.int .i64 0) := HR7.out.cell 1
          have x2 : w7.cell? ⟨w.heap.size, 2, none⟩ = some (.string ⟨#[]⟩) := HR7.out.cell 2
          have g0 := HR7.out.free 0
          have g1 := HR7.out.free 1
          have g2 := HR7.out.free 2
          have HPZ : Hid (Below w.heap.size w (three w7 w.heap.size 0 0 ⟨#[]⟩)) := HB7.out.trans ((three_turned w7 w.heap.size 0 0 ⟨#[]⟩).below (fun k hk => by rw [List.mem_singleton.1 hk]; exact Nat.le_refl _) HB7.out.size)
          have HLZ : Hid _ := load_job (three_blk HR7.out 0 0 ⟨#[]⟩)
          clear HR7 HZ7 HB7
          unfold three at HPZ HLZ
          go_wp2_with fail
          refine bodyPost_ret (v := .tuple #[.agg #[.int .i64 0, .int .i64 0, .string ⟨#[]⟩], .int .i64 140]) ?_ rfl ⟨by rw [HE.out]; rfl, HPZ.out⟩
          exact results_cell2 rfl _ rfl rfl HLZ.out
        | true =>
          have e1 : printE k h T = printX k h T := by unfold printE; rw [hm]; rfl
          rw [hm, e1] at CPR
          have e2 : (if true = true then (0 : Int) else 140) = 0 := rfl
          rw [e2] at CPR
          have HE : Hid (X = some (k, h, T)) := by show X = _; rw [HXT.out]; unfold finJ; rw [if_pos ⟨hm, .inl H3.out⟩]
          clear hm e1 e2 HXT
          generalize printX k h T = P at *
          go_wp2_with fail
          refine CPR.out.mono ?_
          rintro e w7 ⟨rfl, hb7⟩
          have HZ7 := Lib.hid (Blk.below HZ6.out hb7 HZ6.out.lt)
          have HR7 := Lib.hid (Blk.below HR6.out hb7 HR6.out.lt)
          have HB7 := Lib.hid (HB6.out.trans (hb7.mono HB6.out.size))
          clear hb7 CPR z0 z1 z2
          have z0 : w7.cell? ⟨b, 0, none⟩ = some (.int .i64 k) := HZ7.out.cell 0
          have z1 : w7.cell? ⟨b, 1, none⟩ = some (.int .i64 h) := HZ7.out.cell 1
          have z2 : w7.cell? ⟨b, 2, none⟩ = some (.string T) := HZ7.out.cell 2
          have x0 : w7.cell? ⟨w.heap.size, 0, none⟩ = some (.int .i64 0) := HR7.out.cell 0
          have x1 : w7.cell? ⟨w.heap.size, 1, none⟩ = some (.int .i64 0) := HR7.out.cell 1
          have x2 : w7.cell? ⟨w.heap.size, 2, none⟩ = some (.string ⟨#[]⟩) := HR7.out.cell 2
          have g0 := HR7.out.free 0
          have g1 := HR7.out.free 1
          have g2 := HR7.out.free 2
          have y2 := HZ7.out.free 2
          have CC := Lib.hid (jbClone_any T w7 HTS.out)
          go_wp2_with fail
          refine CC.out.mono ?_
          rintro e w8 ⟨rfl, hb8⟩
          have HZ8 := Lib.hid (Blk.below HZ7.out hb8 HZ7.out.lt)
          have HR8 := Lib.hid (Blk.below HR7.out hb8 HR7.out.lt)
          have HB8 := Lib.hid (HB7.out.trans (hb8.mono HB7.out.size))
          clear hb8 CC z0 z1 z2 x0 x1 x2 g0 g1 g2 y2 HZ7 HR7 HB7
          obtain ⟨w9, hw9⟩ : ∃ w9, w9 = w8.setCell ⟨b, 2, none⟩ (.string T) := ⟨_, rfl⟩
          have HT9 : Turned [b] w8 w9 := by rw [hw9]; exact (Turned.refl _ _).setCell (.inl (by simp)) _
          have HZ9 : Hid (Blk w9 b 23 #[.int .i64 k, .int .i64 h, .string T]) := by rw [hw9]; exact HZ8.out.set_ 2 (.string T)
          have HR9 : Hid (Blk w9 w.heap.size 23 #[.int .i64 0, .int .i64 0, .string ⟨#[]⟩]) := HR8.out.turned HT9 (by simp; omega)
          have HB9 : Hid (Below w.heap.size w w9) := HB8.out.trans (HT9.below (fun k hk => by rw [List.mem_singleton.1 hk]; omega) HB8.out.size)
          have u2 : w8.cell? ⟨b, 2, none⟩ = some (.string T) := HZ8.out.cell 2
          have y2 := HZ8.out.free 2
          clear HZ8 HR8 HB8 HT9
          go_upto_region 10 with fail
          rw [← hw9]
          clear hw9 u2 y2
          have z0 : w9.cell? ⟨b, 0, none⟩ = some (.int .i64 k) := HZ9.out.cell 0
          have z1 : w9.cell? ⟨b, 1, none⟩ = some (.int .i64 h) := HZ9.out.cell 1
          have z2 : w9.cell? ⟨b, 2, none⟩ = some (.string T) := HZ9.out.cell 2
          have x0 : w9.cell? ⟨w.heap.size, 0, none⟩ = some (.int .i64 0) := HR9.out.cell 0
          have x1 : w9.cell? ⟨w.heap.size, 1, none⟩ = some (.int .i64 0) := HR9.out.cell 1
          have x2 : w9.cell? ⟨w.heap.size, 2, none⟩ = some (.string ⟨#[]⟩) := HR9.out.cell 2
          have g0 := HR9.out.free 0
          have g1 := HR9.out.free 1
          have g2 := HR9.out.free 2
          have HPZ : Hid (Below w.heap.size w (three w9 w.heap.size k h T)) := HB9.out.trans ((three_turned w9 w.heap.size k h T).below (fun k hk => by rw [List.mem_singleton.1 hk]; exact Nat.le_refl _) HB9.out.size)
          have HLZ : Hid _ := load_job (three_blk HR9.out k h T)
          clear HZ9 HR9 HB9
          unfold three at HPZ HLZ
          go_wp2_with fail
          refine bodyPost_ret (v := .tuple #[.agg #[.int .i64 k, .int .i64 h, .string T], .int .i64 0]) ?_ rfl ⟨by rw [HE.out]; rfl, HPZ.out⟩
          exact results_cell2 rfl _ rfl rfl HLZ.out
      · skip
        have HXT : Hid (X = finJ LN k h T0) := by show X = _; rw [HX.out]; unfold textJ; rw [if_neg h3]
        have HTS : Hid (T0.size ≤ 4194304) := by have := HTX.out; unfold textJ at this; rw [if_neg h3] at this; exact this
        have q3 : (h == 3) = false := by simp [h3]
        have q3' : (h != 3) = true := by simp [h3]
        have H3 := Lib.hid h3
        clear HTJ HX HTX h3
        have HB6 := HBZ
        have HZ6 := HZ
        have HR6 := HRZ
        have HW6 := HWZ
        go_upto_region 6 with fail
        clear z0 z1 z2
        have z0 : wz.cell? ⟨b, 0, none⟩ = some (.int .i64 k) := HZ6.out.cell 0
        have z1 : wz.cell? ⟨b, 1, none⟩ = some (.int .i64 h) := HZ6.out.cell 1
        have z2 : wz.cell? ⟨b, 2, none⟩ = some (.string T0) := HZ6.out.cell 2
        have CPR := Lib.hid (jobPrint_any k h T0 HTS.out wz HW6.out)
        cases hm : mayX k h T0 with
        | false =>
          have HE : Hid (X = none) := by show X = _; rw [HXT.out]; unfold finJ; rw [if_neg (by rw [hm]; simp)]
          have e1 : printE k h T0 = ⟨#[]⟩ := by unfold printE; rw [hm]; rfl
          rw [hm, e1] at CPR
          have e2 : (if false = true then (0 : Int) else 140) = 140 := rfl
          rw [e2] at CPR
          clear hm e1 e2 HXT
          go_wp2_with fail
          refine CPR.out.mono ?_
          rintro e w7 ⟨rfl, hb7⟩
          have HZ7 := Lib.hid (Blk.below HZ6.out hb7 HZ6.out.lt)
          have HR7 := Lib.hid (Blk.below HR6.out hb7 HR6.out.lt)
          have HB7 := Lib.hid (HB6.out.trans (hb7.mono HB6.out.size))
          clear hb7 CPR z0 z1 z2
          have z0 : w7.cell? ⟨b, 0, none⟩ = some (.int .i64 k) := HZ7.out.cell 0
          have z1 : w7.cell? ⟨b, 1, none⟩ = some (.int .i64 h) := HZ7.out.cell 1
          have z2 : w7.cell? ⟨b, 2, none⟩ = some (.string T0) := HZ7.out.cell 2
          have x0 : w7.cell? ⟨w.heap.size, 0, none⟩ = some (.int .i64 0) := HR7.out.cell 0
          have x1 : w7.cell? ⟨w.heap.size, 1, none⟩ = some (.int .i64 0) := HR7.out.cell 1
          have x2 : w7.cell? ⟨w.heap.size, 2, none⟩ = some (.string ⟨#[]⟩) := HR7.out.cell 2
          have g0 := HR7.out.free 0
          have g1 := HR7.out.free 1
          have g2 := HR7.out.free 2
          have HPZ : Hid (Below w.heap.size w (three w7 w.heap.size 0 0 ⟨#[]⟩)) := HB7.out.trans ((three_turned w7 w.heap.size 0 0 ⟨#[]⟩).below (fun k hk => by rw [List.mem_singleton.1 hk]; exact Nat.le_refl _) HB7.out.size)
          have HLZ : Hid _ := load_job (three_blk HR7.out 0 0 ⟨#[]⟩)
          clear HR7 HZ7 HB7
          unfold three at HPZ HLZ
          go_wp2_with fail
          refine bodyPost_ret (v := .tuple #[.agg #[.int .i64 0, .int .i64 0, .string ⟨#[]⟩], .int .i64 140]) ?_ rfl ⟨by rw [HE.out]; rfl, HPZ.out⟩
          exact results_cell2 rfl _ rfl rfl HLZ.out
        | true =>
          have e1 : printE k h T0 = printX k h T0 := by unfold printE; rw [hm]; rfl
          rw [hm, e1] at CPR
          have e2 : (if true = true then (0 : Int) else 140) = 0 := rfl
          rw [e2] at CPR
          by_cases hp : printX k h T0 = LN
          · have HE : Hid (X = some (k, h, T0)) := by show X = _; rw [HXT.out]; unfold finJ; rw [if_pos ⟨hm, .inr hp⟩]
            have t1 := str_yes hp
            clear hm e1 e2 HXT hp
            generalize printX k h T0 = P at *
            have t2 : (P.toList != LN.toList) = false := by simp only [bne]; rw [t1]; rfl
            go_wp2_with fail
            refine CPR.out.mono ?_
            rintro e w7 ⟨rfl, hb7⟩
            have HZ7 := Lib.hid (Blk.below HZ6.out hb7 HZ6.out.lt)
            have HR7 := Lib.hid (Blk.below HR6.out hb7 HR6.out.lt)
            have HB7 := Lib.hid (HB6.out.trans (hb7.mono HB6.out.size))
            clear hb7 CPR z0 z1 z2
            have z0 : w7.cell? ⟨b, 0, none⟩ = some (.int .i64 k) := HZ7.out.cell 0
            have z1 : w7.cell? ⟨b, 1, none⟩ = some (.int .i64 h) := HZ7.out.cell 1
            have z2 : w7.cell? ⟨b, 2, none⟩ = some (.string T0) := HZ7.out.cell 2
            have x0 : w7.cell? ⟨w.heap.size, 0, none⟩ = some (.int .i64 0) := HR7.out.cell 0
            have x1 : w7.cell? ⟨w.heap.size, 1, none⟩ = some (.int .i64 0) := HR7.out.cell 1
            have x2 : w7.cell? ⟨w.heap.size, 2, none⟩ = some (.string ⟨#[]⟩) := HR7.out.cell 2
            have g0 := HR7.out.free 0
            have g1 := HR7.out.free 1
            have g2 := HR7.out.free 2
            have y2 := HZ7.out.free 2
            have CC := Lib.hid (jbClone_any T0 w7 HTS.out)
            go_wp2_with fail
            refine CC.out.mono ?_
            rintro e w8 ⟨rfl, hb8⟩
            have HZ8 := Lib.hid (Blk.below HZ7.out hb8 HZ7.out.lt)
            have HR8 := Lib.hid (Blk.below HR7.out hb8 HR7.out.lt)
            have HB8 := Lib.hid (HB7.out.trans (hb8.mono HB7.out.size))
            clear hb8 CC z0 z1 z2 x0 x1 x2 g0 g1 g2 y2 HZ7 HR7 HB7
            obtain ⟨w9, hw9⟩ : ∃ w9, w9 = w8.setCell ⟨b, 2, none⟩ (.string T0) := ⟨_, rfl⟩
            have HT9 : Turned [b] w8 w9 := by rw [hw9]; exact (Turned.refl _ _).setCell (.inl (by simp)) _
            have HZ9 : Hid (Blk w9 b 23 #[.int .i64 k, .int .i64 h, .string T0]) := by rw [hw9]; exact HZ8.out.set_ 2 (.string T0)
            have HR9 : Hid (Blk w9 w.heap.size 23 #[.int .i64 0, .int .i64 0, .string ⟨#[]⟩]) := HR8.out.turned HT9 (by simp; omega)
            have HB9 : Hid (Below w.heap.size w w9) := HB8.out.trans (HT9.below (fun k hk => by rw [List.mem_singleton.1 hk]; omega) HB8.out.size)
            have u2 : w8.cell? ⟨b, 2, none⟩ = some (.string T0) := HZ8.out.cell 2
            have y2 := HZ8.out.free 2
            clear HZ8 HR8 HB8 HT9
            go_upto_region 10 with fail
            rw [← hw9]
            clear hw9 u2 y2
            have z0 : w9.cell? ⟨b, 0, none⟩ = some (.int .i64 k) := HZ9.out.cell 0
            have z1 : w9.cell? ⟨b, 1, none⟩ = some (.int .i64 h) := HZ9.out.cell 1
            have z2 : w9.cell? ⟨b, 2, none⟩ = some (.string T0) := HZ9.out.cell 2
            have x0 : w9.cell? ⟨w.heap.size, 0, none⟩ = some (.int .i64 0) := HR9.out.cell 0
            have x1 : w9.cell? ⟨w.heap.size, 1, none⟩ = some (.int .i64 0) := HR9.out.cell 1
            have x2 : w9.cell? ⟨w.heap.size, 2, none⟩ = some (.string ⟨#[]⟩) := HR9.out.cell 2
            have g0 := HR9.out.free 0
            have g1 := HR9.out.free 1
            have g2 := HR9.out.free 2
            have HPZ : Hid (Below w.heap.size w (three w9 w.heap.size k h T0)) := HB9.out.trans ((three_turned w9 w.heap.size k h T0).below (fun k hk => by rw [List.mem_singleton.1 hk]; exact Nat.le_refl _) HB9.out.size)
            have HLZ : Hid _ := load_job (three_blk HR9.out k h T0)
            clear HZ9 HR9 HB9
            unfold three at HPZ HLZ
            go_wp2_with fail
            refine bodyPost_ret (v := .tuple #[.agg #[.int .i64 k, .int .i64 h, .string T0], .int .i64 0]) ?_ rfl ⟨by rw [HE.out]; rfl, HPZ.out⟩
            exact results_cell2 rfl _ rfl rfl HLZ.out
          · have HE : Hid (X = none) := by show X = _; rw [HXT.out]; unfold finJ; rw [if_neg (fun hh => by rcases hh.2 with h1 | h1; exact H3.out h1; exact hp h1)]
            have t1 := str_ne hp
            clear hm e1 e2 HXT hp
            generalize printX k h T0 = P at *
            have t2 : (P.toList != LN.toList) = true := by simp only [bne]; rw [t1]; rfl
            go_wp2_with fail
            refine CPR.out.mono ?_
            rintro e w7 ⟨rfl, hb7⟩
            have HZ7 := Lib.hid (Blk.below HZ6.out hb7 HZ6.out.lt)
            have HR7 := Lib.hid (Blk.below HR6.out hb7 HR6.out.lt)
            have HB7 := Lib.hid (HB6.out.trans (hb7.mono HB6.out.size))
            clear hb7 CPR z0 z1 z2
            have z0 : w7.cell? ⟨b, 0, none⟩ = some (.int .i64 k) := HZ7.out.cell 0
            have z1 : w7.cell? ⟨b, 1, none⟩ = some (.int .i64 h) := HZ7.out.cell 1
            have z2 : w7.cell? ⟨b, 2, none⟩ = some (.string T0) := HZ7.out.cell 2
            have x0 : w7.cell? ⟨w.heap.size, 0, none⟩ = some (.int .i64 0) := HR7.out.cell 0
            have x1 : w7.cell? ⟨w.heap.size, 1, none⟩ = some (.int .i64 0) := HR7.out.cell 1
            have x2 : w7.cell? ⟨w.heap.size, 2, none⟩ = some (.string ⟨#[]⟩) := HR7.out.cell 2
            have g0 := HR7.out.free 0
            have g1 := HR7.out.free 1
            have g2 := HR7.out.free 2
            have HPZ : Hid (Below w.heap.size w (three w7 w.heap.size 0 0 ⟨#[]⟩)) := HB7.out.trans ((three_turned w7 w.heap.size 0 0 ⟨#[]⟩).below (fun k hk => by rw [List.mem_singleton.1 hk]; exact Nat.le_refl _) HB7.out.size)
            have HLZ : Hid _ := load_job (three_blk HR7.out 0 0 ⟨#[]⟩)
            clear HR7 HZ7 HB7
            unfold three at HPZ HLZ
            go_wp2_with fail
            refine bodyPost_ret (v := .tuple #[.agg #[.int .i64 0, .int .i64 0, .string ⟨#[]⟩], .int .i64 140]) ?_ rfl ⟨by rw [HE.out]; rfl, HPZ.out⟩
            exact results_cell2 rfl _ rfl rfl HLZ.out
  · skip
    go_simp
    have HBK : Hid (Blk ((w2.alloc (.cells #[.int .i64 0, .int .i64 0, .string ⟨#[]⟩] 23)).drew) w2.heap.size 23 #[.int .i64 0, .int .i64 0, .string ⟨#[]⟩]) := Blk.new w2 _ _
    have HBL : Hid (w2.heap.size ≤ w2.heap.size) := Nat.le_refl _
    have hSA : Below w2.heap.size w2 ((w2.alloc (.cells #[.int .i64 0, .int .i64 0, .string ⟨#[]⟩] 23)).drew) := ((Below.refl _ _).alloc (Nat.le_refl _) _).drew
    refine hK.out _ _ hSA ?_
    clear hS hK hSA
    intro hS
    try simp only [List.getElem_toArray, List.getElem_cons_zero, List.getElem_cons_succ, Act.put, List.setIfInBounds_toArray, List.set_cons_zero, List.set_cons_succ]
    generalize (w2.alloc (.cells #[.int .i64 0, .int .i64 0, .string ⟨#[]⟩] 23)).drew = wA at *
    refine wpAnyS_one (i := 2) (by kernel_rfl) rfl (fun K hK => ?_)
    go_simp
    refine (HNK.out _).mono ?_
    rintro e w3 ⟨rfl, hb⟩
    have Hw3 : Hid (Below w2.heap.size w2 w3) := hS.trans (hb.mono hS.size)
    have HBK := Lib.hid (Blk.below HBK.out hb HBK.out.lt)
    refine hK.out _ _ Hw3.out ?_
    clear hS hK hb
    intro hS
    try simp only [List.getElem_toArray, List.getElem_cons_zero, List.getElem_cons_succ, Act.put, List.setIfInBounds_toArray, List.set_cons_zero, List.set_cons_succ]
    refine wpAnyS_one (i := 5) (by kernel_rfl) rfl (fun K hK => ?_)
    go_simp
    refine (HNH.out _).mono ?_
    rintro e w4 ⟨rfl, hb⟩
    have Hw4 : Hid (Below w2.heap.size w2 w4) := hS.trans (hb.mono hS.size)
    have HBK := Lib.hid (Blk.below HBK.out hb HBK.out.lt)
    refine hK.out _ _ Hw4.out ?_
    clear hS hK hb
    intro hS
    try simp only [List.getElem_toArray, List.getElem_cons_zero, List.getElem_cons_succ, Act.put, List.setIfInBounds_toArray, List.set_cons_zero, List.set_cons_succ]
    refine wpAnyS_take (i := 7) (fun wx => Below w2.heap.size w2 wx) (v := (.agg #[.int .i64 k, .int .i64 h, .string T0])) rfl (by kernel_rfl) (by kernel_rfl) (by kernel_rfl) (fun _ _ _ h => h) (fun _ _ _ h => h) (fun _ _ => Iff.rfl) (by kernel_rfl) hS (fun wx hSw => ?_) (by kernel_rfl) ?_
    · go_simp
    clear hS
    intro hS
    try simp only [List.getElem_toArray, List.getElem_cons_zero, List.getElem_cons_succ, Act.put, List.setIfInBounds_toArray, List.set_cons_zero, List.set_cons_succ]
    have z0 : w4.cell? ⟨w2.heap.size, 0, none⟩ = some (.int .i64 0) := HBK.out.cell 0
    have z1 : w4.cell? ⟨w2.heap.size, 1, none⟩ = some (.int .i64 0) := HBK.out.cell 1
    have z2 : w4.cell? ⟨w2.heap.size, 2, none⟩ = some (.string ⟨#[]⟩) := HBK.out.cell 2
    have y0 := HBK.out.free 0
    have y1 := HBK.out.free 1
    have y2 := HBK.out.free 2
    refine wpAnyS_one (i := 9) (by kernel_rfl) rfl (fun K hK => ?_)
    go_simp
    have hSB : Below w2.heap.size w2 (three w4 w2.heap.size k h T0) := hS.trans ((three_turned w4 w2.heap.size k h T0).below (fun k hk => by rw [List.mem_singleton.1 hk]; exact HBL.out) hS.size)
    have HZ := Lib.hid (three_blk HBK.out k h T0)
    unfold three at hSB HZ
    refine hK.out _ _ hSB ?_
    clear hS hK HBK z0 z1 z2 y0 y1 y2
    intro hS
    try simp only [List.getElem_toArray, List.getElem_cons_zero, List.getElem_cons_succ, Act.put, List.setIfInBounds_toArray, List.set_cons_zero, List.set_cons_succ]
    refine wpAnyS_done (by kernel_rfl) ?_ _
    try simp only [List.getElem_toArray, List.getElem_cons_zero, List.getElem_cons_succ, Act.put, List.setIfInBounds_toArray, List.set_cons_zero, List.set_cons_succ]
    generalize ((w4.setCell ⟨w2.heap.size, 0, none⟩ (.int .i64 k)).setCell ⟨w2.heap.size, 1, none⟩ (.int .i64 h)).setCell ⟨w2.heap.size, 2, none⟩ (.string T0) = wz at *
    have HBZ := Lib.hid (HB2.out.trans (hS.mono HB2.out.size))
    have HWZ := Lib.hid (HW2.out.below hS)
    have HRZ := Lib.hid (Blk.below HR2.out hS HR2.out.lt)
    have hnb : w.heap.size < w2.heap.size := by have := HBL.out; omega
    clear hS hSB HF HNK HNH HW2 HB2 HR2
    have z0 : wz.cell? ⟨w2.heap.size, 0, none⟩ = some (.int .i64 k) := HZ.out.cell 0
    have z1 : wz.cell? ⟨w2.heap.size, 1, none⟩ = some (.int .i64 h) := HZ.out.cell 1
    have z2 : wz.cell? ⟨w2.heap.size, 2, none⟩ = some (.string T0) := HZ.out.cell 2
    by_cases h3 : h = 3
    · skip
      have HXT : Hid (X = finJ LN k h (oneX T0)) := by show X = _; rw [HX.out]; unfold textJ; rw [if_pos h3]
      have HTS : Hid ((oneX T0).size ≤ 4194304) := by have := oneX_size T0; show _ ≤ _; omega
      have q3 : (h == 3) = true := by simp [h3]
      have CO := Lib.hid (HTJ.out wz HWZ.out)
      have H3 := Lib.hid h3
      unfold OnePost at CO
      clear HTJ HX HTX h3
      generalize oneX T0 = T at *
      go_wp2_with fail
      refine CO.out.mono ?_
      rintro e w5 ⟨hb5, k5, n5, o5, ev5, A5, l5, c5, rfl⟩
      have HZ5 := Lib.hid (Blk.below HZ.out hb5 HZ.out.lt)
      have z0 : w5.cell? ⟨w2.heap.size, 0, none⟩ = some (.int .i64 k) := HZ5.out.cell 0
      have z1 : w5.cell? ⟨w2.heap.size, 1, none⟩ = some (.int .i64 h) := HZ5.out.cell 1
      have z2 : w5.cell? ⟨w2.heap.size, 2, none⟩ = some (.string T0) := HZ5.out.cell 2
      have y2 := HZ5.out.free 2
      have HZ6 : Hid (Blk (w5.setCell ⟨w2.heap.size, 2, none⟩ (.string T)) w2.heap.size 23 #[.int .i64 k, .int .i64 h, .string T]) := HZ5.out.set_ 2 (.string T)
      have HT6 : Turned [w2.heap.size] w5 (w5.setCell ⟨w2.heap.size, 2, none⟩ (.string T)) := (Turned.refl _ _).setCell (.inl (by simp)) _
      have HB6 : Hid (Below w.heap.size w (w5.setCell ⟨w2.heap.size, 2, none⟩ (.string T))) := (HBZ.out.trans (hb5.mono HBZ.out.size)).trans (HT6.below (fun k hk => by rw [List.mem_singleton.1 hk]; omega) (Nat.le_trans HBZ.out.size hb5.size))
      have HR6 : Hid (Blk (w5.setCell ⟨w2.heap.size, 2, none⟩ (.string T)) w.heap.size 23 #[.int .i64 0, .int .i64 0, .string ⟨#[]⟩]) := (Blk.below HRZ.out hb5 HRZ.out.lt).turned HT6 (by simp; omega)
      have HW6 : Hid (JbW (w5.setCell ⟨w2.heap.size, 2, none⟩ (.string T))) := (JbW.turned1 (HWZ.out.below hb5) HT6 (by have := HWS.out; omega))
      clear hb5 CO HZ HZ5 HBZ HRZ HWZ HT6
      go_upto_region 6 with fail
      generalize w5.setCell ⟨w2.heap.size, 2, none⟩ (.string T) = w6 at *
      have q3' : (h != 3) = false := by have := H3.out; simp [this]
      clear z0 z1 z2
      have z0 : w6.cell? ⟨w2.heap.size, 0, none⟩ = some (.int .i64 k) := HZ6.out.cell 0
      have z1 : w6.cell? ⟨w2.heap.size, 1, none⟩ = some (.int .i64 h) := HZ6.out.cell 1
      have z2 : w6.cell? ⟨w2.heap.size, 2, none⟩ = some (.string T) := HZ6.out.cell 2
      have CPR := Lib.hid (jobPrint_any k h T HTS.out w6 HW6.out)
      cases hm : mayX k h T with
      | false =>
        have HE : Hid (X = none) := by show X = _; rw [HXT.out]; unfold finJ; rw [if_neg (by rw [hm]; simp)]
        have e1 : printE k h T = ⟨#[]⟩ := by unfold printE; rw [hm]; rfl
        rw [hm, e1] at CPR
        have e2 : (if false = true then (0 : Int) else 140) = 140 := rfl
        rw [e2] at CPR
        clear hm e1 e2 HXT
        go_wp2_with fail
        refine CPR.out.mono ?_
        rintro e w7 ⟨rfl, hb7⟩
        have HZ7 := Lib.hid (Blk.below HZ6.out hb7 HZ6.out.lt)
        have HR7 := Lib.hid (Blk.below HR6.out hb7 HR6.out.lt)
        have HB7 := Lib.hid (HB6.out.trans (hb7.mono HB6.out.size))
        clear hb7 CPR z0 z1 z2
        have z0 : w7.cell? ⟨w2.heap.size, 0, none⟩ = some (.int .i64 k) := HZ7.out.cell 0
        have z1 : w7.cell? ⟨w2.heap.size, 1, none⟩ = some (.int .i64 h) := HZ7.out.cell 1
        have z2 : w7.cell? ⟨w2.heap.size, 2, none⟩ = some (.string T) := HZ7.out.cell 2
        have x0 : w7.cell? ⟨w.heap.size, 0, none⟩ = some (.int .i64 0) := HR7.out.cell 0
        have x1 : w7.cell? ⟨w.heap.size, 1, none⟩ = some (.int .i64 0) := HR7.out.cell 1
        have x2 : w7.cell? ⟨w.heap.size, 2, none⟩ = some (.string ⟨#[]⟩) := HR7.out.cell 2
        have g0 := HR7.out.free 0
        have g1 := HR7.out.free 1
        have g2 := HR7.out.free 2
        have HPZ : Hid (Below w.heap.size w (three w7 w.heap.size 0 0 ⟨#[]⟩)) := HB7.out.trans ((three_turned w7 w.heap.size 0 0 ⟨#[]⟩).below (fun k hk => by rw [List.mem_singleton.1 hk]; exact Nat.le_refl _) HB7.out.size)
        have HLZ : Hid _ := load_job (three_blk HR7.out 0 0 ⟨#[]⟩)
        clear HR7 HZ7 HB7
        unfold three at HPZ HLZ
        go_wp2_with fail
        refine bodyPost_ret (v := .tuple #[.agg #[.int .i64 0, .int .i64 0, .string ⟨#[]⟩], .int .i64 140]) ?_ rfl ⟨by rw [HE.out]; rfl, HPZ.out⟩
        exact results_cell2 rfl _ rfl rfl HLZ.out
      | true =>
        have e1 : printE k h T = printX k h T := by unfold printE; rw [hm]; rfl
        rw [hm, e1] at CPR
        have e2 : (if true = true then (0 : Int) else 140) = 0 := rfl
        rw [e2] at CPR
        have HE : Hid (X = some (k, h, T)) := by show X = _; rw [HXT.out]; unfold finJ; rw [if_pos ⟨hm, .inl H3.out⟩]
        clear hm e1 e2 HXT
        generalize printX k h T = P at *
        go_wp2_with fail
        refine CPR.out.mono ?_
        rintro e w7 ⟨rfl, hb7⟩
        have HZ7 := Lib.hid (Blk.below HZ6.out hb7 HZ6.out.lt)
        have HR7 := Lib.hid (Blk.below HR6.out hb7 HR6.out.lt)
        have HB7 := Lib.hid (HB6.out.trans (hb7.mono HB6.out.size))
        clear hb7 CPR z0 z1 z2
        have z0 : w7.cell? ⟨w2.heap.size, 0, none⟩ = some (.int .i64 k) := HZ7.out.cell 0
        have z1 : w7.cell? ⟨w2.heap.size, 1, none⟩ = some (.int .i64 h) := HZ7.out.cell 1
        have z2 : w7.cell? ⟨w2.heap.size, 2, none⟩ = some (.string T) := HZ7.out.cell 2
        have x0 : w7.cell? ⟨w.heap.size, 0, none⟩ = some (.int .i64 0) := HR7.out.cell 0
        have x1 : w7.cell? ⟨w.heap.size, 1, none⟩ = some (.int .i64 0) := HR7.out.cell 1
        have x2 : w7.cell? ⟨w.heap.size, 2, none⟩ = some (.string ⟨#[]⟩) := HR7.out.cell 2
        have g0 := HR7.out.free 0
        have g1 := HR7.out.free 1
        have g2 := HR7.out.free 2
        have y2 := HZ7.out.free 2
        have CC := Lib.hid (jbClone_any T w7 HTS.out)
        go_wp2_with fail
        refine CC.out.mono ?_
        rintro e w8 ⟨rfl, hb8⟩
        have HZ8 := Lib.hid (Blk.below HZ7.out hb8 HZ7.out.lt)
        have HR8 := Lib.hid (Blk.below HR7.out hb8 HR7.out.lt)
        have HB8 := Lib.hid (HB7.out.trans (hb8.mono HB7.out.size))
        clear hb8 CC z0 z1 z2 x0 x1 x2 g0 g1 g2 y2 HZ7 HR7 HB7
        obtain ⟨w9, hw9⟩ : ∃ w9, w9 = w8.setCell ⟨w2.heap.size, 2, none⟩ (.string T) := ⟨_, rfl⟩
        have HT9 : Turned [w2.heap.size] w8 w9 := by rw [hw9]; exact (Turned.refl _ _).setCell (.inl (by simp)) _
        have HZ9 : Hid (Blk w9 w2.heap.size 23 #[.int .i64 k, .int .i64 h, .string T]) := by rw [hw9]; exact HZ8.out.set_ 2 (.string T)
        have HR9 : Hid (Blk w9 w.heap.size 23 #[.int .i64 0, .int .i64 0, .string ⟨#[]⟩]) := HR8.out.turned HT9 (by simp; omega)
        have HB9 : Hid (Below w.heap.size w w9) := HB8.out.trans (HT9.below (fun k hk => by rw [List.mem_singleton.1 hk]; omega) HB8.out.size)
        have u2 : w8.cell? ⟨w2.heap.size, 2, none⟩ = some (.string T) := HZ8.out.cell 2
        have y2 := HZ8.out.free 2
        clear HZ8 HR8 HB8 HT9
        go_upto_region 10 with fail
        rw [← hw9]
        clear hw9 u2 y2
        have z0 : w9.cell? ⟨w2.heap.size, 0, none⟩ = some (.int .i64 k) := HZ9.out.cell 0
        have z1 : w9.cell? ⟨w2.heap.size, 1, none⟩ = some (.int .i64 h) := HZ9.out.cell 1
        have z2 : w9.cell? ⟨w2.heap.size, 2, none⟩ = some (.string T) := HZ9.out.cell 2
        have x0 : w9.cell? ⟨w.heap.size, 0, none⟩ = some (.int .i64 0) := HR9.out.cell 0
        have x1 : w9.cell? ⟨w.heap.size, 1, none⟩ = some (.int .i64 0) := HR9.out.cell 1
        have x2 : w9.cell? ⟨w.heap.size, 2, none⟩ = some (.string ⟨#[]⟩) := HR9.out.cell 2
        have g0 := HR9.out.free 0
        have g1 := HR9.out.free 1
        have g2 := HR9.out.free 2
        have HPZ : Hid (Below w.heap.size w (three w9 w.heap.size k h T)) := HB9.out.trans ((three_turned w9 w.heap.size k h T).below (fun k hk => by rw [List.mem_singleton.1 hk]; exact Nat.le_refl _) HB9.out.size)
        have HLZ : Hid _ := load_job (three_blk HR9.out k h T)
        clear HZ9 HR9 HB9
        unfold three at HPZ HLZ
        go_wp2_with fail
        refine bodyPost_ret (v := .tuple #[.agg #[.int .i64 k, .int .i64 h, .string T], .int .i64 0]) ?_ rfl ⟨by rw [HE.out]; rfl, HPZ.out⟩
        exact results_cell2 rfl _ rfl rfl HLZ.out
    · skip
      have HXT : Hid (X = finJ LN k h T0) := by show X = _; rw [HX.out]; unfold textJ; rw [if_neg h3]
      have HTS : Hid (T0.size ≤ 4194304) := by have := HTX.out; unfold textJ at this; rw [if_neg h3] at this; exact this
      have q3 : (h == 3) = false := by simp [h3]
      have q3' : (h != 3) = true := by simp [h3]
      have H3 := Lib.hid h3
      clear HTJ HX HTX h3
      have HB6 := HBZ
      have HZ6 := HZ
      have HR6 := HRZ
      have HW6 := HWZ
      go_upto_region 6 with fail
      clear z0 z1 z2
      have z0 : wz.cell? ⟨w2.heap.size, 0, none⟩ = some (.int .i64 k) := HZ6.out.cell 0
      have z1 : wz.cell? ⟨w2.heap.size, 1, none⟩ = some (.int .i64 h) := HZ6.out.cell 1
      have z2 : wz.cell? ⟨w2.heap.size, 2, none⟩ = some (.string T0) := HZ6.out.cell 2
      have CPR := Lib.hid (jobPrint_any k h T0 HTS.out wz HW6.out)
      cases hm : mayX k h T0 with
      | false =>
        have HE : Hid (X = none) := by show X = _; rw [HXT.out]; unfold finJ; rw [if_neg (by rw [hm]; simp)]
        have e1 : printE k h T0 = ⟨#[]⟩ := by unfold printE; rw [hm]; rfl
        rw [hm, e1] at CPR
        have e2 : (if false = true then (0 : Int) else 140) = 140 := rfl
        rw [e2] at CPR
        clear hm e1 e2 HXT
        go_wp2_with fail
        refine CPR.out.mono ?_
        rintro e w7 ⟨rfl, hb7⟩
        have HZ7 := Lib.hid (Blk.below HZ6.out hb7 HZ6.out.lt)
        have HR7 := Lib.hid (Blk.below HR6.out hb7 HR6.out.lt)
        have HB7 := Lib.hid (HB6.out.trans (hb7.mono HB6.out.size))
        clear hb7 CPR z0 z1 z2
        have z0 : w7.cell? ⟨w2.heap.size, 0, none⟩ = some (.int .i64 k) := HZ7.out.cell 0
        have z1 : w7.cell? ⟨w2.heap.size, 1, none⟩ = some (.int .i64 h) := HZ7.out.cell 1
        have z2 : w7.cell? ⟨w2.heap.size, 2, none⟩ = some (.string T0) := HZ7.out.cell 2
        have x0 : w7.cell? ⟨w.heap.size, 0, none⟩ = some (.int .i64 0) := HR7.out.cell 0
        have x1 : w7.cell? ⟨w.heap.size, 1, none⟩ = some (.int .i64 0) := HR7.out.cell 1
        have x2 : w7.cell? ⟨w.heap.size, 2, none⟩ = some (.string ⟨#[]⟩) := HR7.out.cell 2
        have g0 := HR7.out.free 0
        have g1 := HR7.out.free 1
        have g2 := HR7.out.free 2
        have HPZ : Hid (Below w.heap.size w (three w7 w.heap.size 0 0 ⟨#[]⟩)) := HB7.out.trans ((three_turned w7 w.heap.size 0 0 ⟨#[]⟩).below (fun k hk => by rw [List.mem_singleton.1 hk]; exact Nat.le_refl _) HB7.out.size)
        have HLZ : Hid _ := load_job (three_blk HR7.out 0 0 ⟨#[]⟩)
        clear HR7 HZ7 HB7
        unfold three at HPZ HLZ
        go_wp2_with fail
        refine bodyPost_ret (v := .tuple #[.agg #[.int .i64 0, .int .i64 0, .string ⟨#[]⟩], .int .i64 140]) ?_ rfl ⟨by rw [HE.out]; rfl, HPZ.out⟩
        exact results_cell2 rfl _ rfl rfl HLZ.out
      | true =>
        have e1 : printE k h T0 = printX k h T0 := by unfold printE; rw [hm]; rfl
        rw [hm, e1] at CPR
        have e2 : (if true = true then (0 : Int) else 140) = 0 := rfl
        rw [e2] at CPR
        by_cases hp : printX k h T0 = LN
        · have HE : Hid (X = some (k, h, T0)) := by show X = _; rw [HXT.out]; unfold finJ; rw [if_pos ⟨hm, .inr hp⟩]
          have t1 := str_yes hp
          clear hm e1 e2 HXT hp
          generalize printX k h T0 = P at *
          have t2 : (P.toList != LN.toList) = false := by simp only [bne]; rw [t1]; rfl
          go_wp2_with fail
          refine CPR.out.mono ?_
          rintro e w7 ⟨rfl, hb7⟩
          have HZ7 := Lib.hid (Blk.below HZ6.out hb7 HZ6.out.lt)
          have HR7 := Lib.hid (Blk.below HR6.out hb7 HR6.out.lt)
          have HB7 := Lib.hid (HB6.out.trans (hb7.mono HB6.out.size))
          clear hb7 CPR z0 z1 z2
          have z0 : w7.cell? ⟨w2.heap.size, 0, none⟩ = some (.int .i64 k) := HZ7.out.cell 0
          have z1 : w7.cell? ⟨w2.heap.size, 1, none⟩ = some (.int .i64 h) := HZ7.out.cell 1
          have z2 : w7.cell? ⟨w2.heap.size, 2, none⟩ = some (.string T0) := HZ7.out.cell 2
          have x0 : w7.cell? ⟨w.heap.size, 0, none⟩ = some (.int .i64 0) := HR7.out.cell 0
          have x1 : w7.cell? ⟨w.heap.size, 1, none⟩ = some (.int .i64 0) := HR7.out.cell 1
          have x2 : w7.cell? ⟨w.heap.size, 2, none⟩ = some (.string ⟨#[]⟩) := HR7.out.cell 2
          have g0 := HR7.out.free 0
          have g1 := HR7.out.free 1
          have g2 := HR7.out.free 2
          have y2 := HZ7.out.free 2
          have CC := Lib.hid (jbClone_any T0 w7 HTS.out)
          go_wp2_with fail
          refine CC.out.mono ?_
          rintro e w8 ⟨rfl, hb8⟩
          have HZ8 := Lib.hid (Blk.below HZ7.out hb8 HZ7.out.lt)
          have HR8 := Lib.hid (Blk.below HR7.out hb8 HR7.out.lt)
          have HB8 := Lib.hid (HB7.out.trans (hb8.mono HB7.out.size))
          clear hb8 CC z0 z1 z2 x0 x1 x2 g0 g1 g2 y2 HZ7 HR7 HB7
          obtain ⟨w9, hw9⟩ : ∃ w9, w9 = w8.setCell ⟨w2.heap.size, 2, none⟩ (.string T0) := ⟨_, rfl⟩
          have HT9 : Turned [w2.heap.size] w8 w9 := by rw [hw9]; exact (Turned.refl _ _).setCell (.inl (by simp)) _
          have HZ9 : Hid (Blk w9 w2.heap.size 23 #[.int .i64 k, .int .i64 h, .string T0]) := by rw [hw9]; exact HZ8.out.set_ 2 (.string T0)
          have HR9 : Hid (Blk w9 w.heap.size 23 #[.int .i64 0, .int .i64 0, .string ⟨#[]⟩]) := HR8.out.turned HT9 (by simp; omega)
          have HB9 : Hid (Below w.heap.size w w9) := HB8.out.trans (HT9.below (fun k hk => by rw [List.mem_singleton.1 hk]; omega) HB8.out.size)
          have u2 : w8.cell? ⟨w2.heap.size, 2, none⟩ = some (.string T0) := HZ8.out.cell 2
          have y2 := HZ8.out.free 2
          clear HZ8 HR8 HB8 HT9
          go_upto_region 10 with fail
          rw [← hw9]
          clear hw9 u2 y2
          have z0 : w9.cell? ⟨w2.heap.size, 0, none⟩ = some (.int .i64 k) := HZ9.out.cell 0
          have z1 : w9.cell? ⟨w2.heap.size, 1, none⟩ = some (.int .i64 h) := HZ9.out.cell 1
          have z2 : w9.cell? ⟨w2.heap.size, 2, none⟩ = some (.string T0) := HZ9.out.cell 2
          have x0 : w9.cell? ⟨w.heap.size, 0, none⟩ = some (.int .i64 0) := HR9.out.cell 0
          have x1 : w9.cell? ⟨w.heap.size, 1, none⟩ = some (.int .i64 0) := HR9.out.cell 1
          have x2 : w9.cell? ⟨w.heap.size, 2, none⟩ = some (.string ⟨#[]⟩) := HR9.out.cell 2
          have g0 := HR9.out.free 0
          have g1 := HR9.out.free 1
          have g2 := HR9.out.free 2
          have HPZ : Hid (Below w.heap.size w (three w9 w.heap.size k h T0)) := HB9.out.trans ((three_turned w9 w.heap.size k h T0).below (fun k hk => by rw [List.mem_singleton.1 hk]; exact Nat.le_refl _) HB9.out.size)
          have HLZ : Hid _ := load_job (three_blk HR9.out k h T0)
          clear HZ9 HR9 HB9
          unfold three at HPZ HLZ
          go_wp2_with fail
          refine bodyPost_ret (v := .tuple #[.agg #[.int .i64 k, .int .i64 h, .string T0], .int .i64 0]) ?_ rfl ⟨by rw [HE.out]; rfl, HPZ.out⟩
          exact results_cell2 rfl _ rfl rfl HLZ.out
        · have HE : Hid (X = none) := by show X = _; rw [HXT.out]; unfold finJ; rw [if_neg (fun hh => by rcases hh.2 with h1 | h1; exact H3.out h1; exact hp h1)]
          have t1 := str_ne hp
          clear hm e1 e2 HXT hp
          generalize printX k h T0 = P at *
          have t2 : (P.toList != LN.toList) = true := by simp only [bne]; rw [t1]; rfl
          go_wp2_with fail
          refine CPR.out.mono ?_
          rintro e w7 ⟨rfl, hb7⟩
          have HZ7 := Lib.hid (Blk.below HZ6.out hb7 HZ6.out.lt)
          have HR7 := Lib.hid (Blk.below HR6.out hb7 HR6.out.lt)
          have HB7 := Lib.hid (HB6.out.trans (hb7.mono HB6.out.size))
          clear hb7 CPR z0 z1 z2
          have z0 : w7.cell? ⟨w2.heap.size, 0, none⟩ = some (.int .i64 k) := HZ7.out.cell 0
          have z1 : w7.cell? ⟨w2.heap.size, 1, none⟩ = some (.int .i64 h) := HZ7.out.cell 1
          have z2 : w7.cell? ⟨w2.heap.size, 2, none⟩ = some (.string T0) := HZ7.out.cell 2
          have x0 : w7.cell? ⟨w.heap.size, 0, none⟩ = some (.int .i64 0) := HR7.out.cell 0
          have x1 : w7.cell? ⟨w.heap.size, 1, none⟩ = some (.int .i64 0) := HR7.out.cell 1
          have x2 : w7.cell? ⟨w.heap.size, 2, none⟩ = some (.string ⟨#[]⟩) := HR7.out.cell 2
          have g0 := HR7.out.free 0
          have g1 := HR7.out.free 1
          have g2 := HR7.out.free 2
          have HPZ : Hid (Below w.heap.size w (three w7 w.heap.size 0 0 ⟨#[]⟩)) := HB7.out.trans ((three_turned w7 w.heap.size 0 0 ⟨#[]⟩).below (fun k hk => by rw [List.mem_singleton.1 hk]; exact Nat.le_refl _) HB7.out.size)
          have HLZ : Hid _ := load_job (three_blk HR7.out 0 0 ⟨#[]⟩)
          clear HR7 HZ7 HB7
          unfold three at HPZ HLZ
          go_wp2_with fail
          refine bodyPost_ret (v := .tuple #[.agg #[.int .i64 0, .int .i64 0, .string ⟨#[]⟩], .int .i64 140]) ?_ rfl ⟨by rw [HE.out]; rfl, HPZ.out⟩
          exact results_cell2 rfl _ rfl rfl HLZ.out
end Go.Proofs.YtciogfpejenedaaGreatDoor
