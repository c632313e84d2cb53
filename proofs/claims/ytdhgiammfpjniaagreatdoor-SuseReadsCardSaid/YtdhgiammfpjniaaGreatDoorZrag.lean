/- Parts of the proof. -/
import Derived.Test.YtdhgiammfpjniaaGreatDoorZraf
namespace Go.Proofs.YtdhgiammfpjniaaGreatDoor.Ev
set_option linter.unusedSimpArgs false
set_option linter.unusedVariables false
open Go.RowKit
set_option maxHeartbeats 8000000 in
set_option maxRecDepth 100000 in
theorem alQ9 (s : ByteArray) (h : s.size ≤ 60) (hm : s.data.toList.all isMay = true) (hc : (58 : UInt8) ∈ s.data.toList) (w : World) (hgood : ∀ k, k = (s.data.toList.takeWhile (· != 58)).length → (k ≠ 0 ∧ k ≤ 9 ∧ (s.data.toList.take k).all isDg = true)) : Calls Tryz.prog 119 #[.string s] w (SplitPost w (parse s.data.toList)) := by
 have CM := hQQ (fun w => afQq aeQ4 (enters_of Tryz.func177 (by kernel_rfl) rfl) s (by unfold maxLen; omega) w)
 have CI := hQQ (fun w => Tryz.strings_IndexByte s 58 w)
 have h60 : (s.size : Int) ≤ 60 := by omega
 have h0 : (0 : Int) ≤ (s.size : Int) := by omega
 have HG := hQQ (show s.data.toList.length ≤ 60 ∧ s.data.toList.all isMay = true from ⟨by rw [aaQd]; exact h, hm⟩)
 have hall := afQi hm
 rw [aaQd] at hall
 have HCI := hQQ (aeQa hc)
 change Hid (∀ w, Calls Tryz.prog 43 #[.string s, .int .u8 58] w fun e w' => e = .returned (.int .i64 (Lib.indexByte s.data.toList 58)) ∧ w' = w) at CI
 rw [aeQa hc] at CI
 have HPC := hQQ (fun k hk => ahQc HG.out hc (k := k) hk)
 have klt := agQg hc
 rw [aaQd] at klt
 rw [hall] at CM
 clear hm hall HCI
 obtain ⟨k, hk⟩ : ∃ k, k = (s.data.toList.takeWhile (· != 58)).length := ⟨_, rfl⟩
 have HP1 := hQQ (HPC.out k hk)
 have hgood := hgood k hk
 rw [← hk] at CI klt
 clear hk HPC hc
 have k0 : (0 : Int) ≤ (k : Int) := by omega
 have k1 : (k : Int) + 1 ≤ (s.size : Int) := by omega
 have k2 : (k : Int) ≤ (s.size : Int) := by omega
 have HP0 : Hid (parse s.data.toList = vr (s.data.toList.take k) (s.extract (k + 1) s.size).data.toList) := by
  show parse s.data.toList = _
  rw [acQ9]
  exact HP1.out.trans (if_pos hgood)
 obtain ⟨kz, k9, hdig⟩ := hgood
 have hw := afQi hdig
 rw [← acQa, aaQd] at hw
 have hsz : (s.extract 0 k).size = k := by rw [← aaQd, acQa, List.length_take, aaQd]; omega
 rw [hsz] at hw
 have CE := hQQ (fun w => afQq aeQq (enters_of Tryz.func178 (by kernel_rfl) rfl) (s.extract 0 k) (by rw [hsz]; unfold maxLen; omega) w)
 rw [hw] at CE
 have k4 : ((k : Int) == 0) = false := by simp; omega
 have k6 : ¬ (9 : Int) < (k : Int) := by omega
 have ht60 : (s.extract (k + 1) s.size).size ≤ 60 := by rw [← aaQd, acQ9, List.length_drop, aaQd]; omega
 clear HP1 kz k9 hdig hw hsz
 by_cases hd : (45 : UInt8) ∈ (s.extract (k + 1) s.size).data.toList
 ·skip
  obtain ⟨j, hj, ej, hj45, hjn⟩ := anQv (s := (s.extract (k + 1) s.size)) hd
  have CL := hQQ (fun w => Tryz.strings_LastIndexByte ((s.extract (k + 1) s.size)) 45 (by omega) w)
  rw [show (45 : Int) = ((45 : UInt8).toNat : Int) from rfl, ej] at CL
  change Hid (∀ w, Calls Tryz.prog 179 #[.string ((s.extract (k + 1) s.size)), .int .u8 45] w fun e w' => e = .returned (.int .i64 (j : Int)) ∧ w' = w) at CL
  have CC := hQQ (fun w => Tryz.strings_Contains_one ((s.extract (k + 1) s.size)) 58 w)
  rw [indexB_ge] at CC
  have LV : ((s.extract (k + 1) s.size).extract 0 j).data.toList = (s.extract (k + 1) s.size).data.toList.take j := acQa _ _
  have LR : ((s.extract (k + 1) s.size).extract (j + 1) (s.extract (k + 1) s.size).size).data.toList = (s.extract (k + 1) s.size).data.toList.drop (j + 1) := acQ9 _ _
  have j0 : (0 : Int) ≤ (j : Int) := by omega
  have j1 : (j : Int) + 1 ≤ ((s.extract (k + 1) s.size).size : Int) := by omega
  have j2 : (j : Int) ≤ ((s.extract (k + 1) s.size).size : Int) := by omega
  have j3 : ((s.extract (k + 1) s.size).size : Int) ≤ 60 := by omega
  clear hd ej hj
  by_cases zr : ((s.extract (k + 1) s.size).extract (j + 1) (s.extract (k + 1) s.size).size).data.toList = []
  ·skip
   have HP := hQQ (HP0.out.trans (acQ3 hj45 hjn (.inr (LR ▸ zr))))
   have zra : ((s.extract (k + 1) s.size).extract (j + 1) (s.extract (k + 1) s.size).size).toList.isEmpty = true := by rw [ByteArray.toList_eq, zr]; rfl
   have zrb : ((s.extract (k + 1) s.size).extract (j + 1) (s.extract (k + 1) s.size).size).toList = [] := by rw [ByteArray.toList_eq, zr]
   clear zr LV LR hj45 hjn HP0 CC
   go_enter Tryz.func119, Tryz.ntmps119
   go_wp2_with fail
   refine (CM.out _).mono ?_
   rintro e w1 ⟨rfl, rfl⟩
   go_wp2_with fail
   refine (CI.out _).mono ?_
   rintro e w1 ⟨rfl, rfl⟩
   go_wp2_with fail
   go_region
   generalize s.extract (k + 1) s.size = t at *
   go_wp2_with fail
   refine (CE.out _).mono ?_
   rintro e w1 ⟨rfl, rfl⟩
   go_wp2_with fail
   refine (CL.out _).mono ?_
   rintro e w1 ⟨rfl, rfl⟩
   go_wp2_with fail
   go_region
   all_goals go_wp2_with fail
   all_goals
    refine bodyPost_ret (v := .tuple #[.agg #[.string ⟨#[]⟩, .string ⟨#[]⟩, .string ⟨#[]⟩], .bool false]) (by simp [results, Tryz.results119, go_sem]) rfl (SplitPost.mk_none HP.out ?_)
    first | exact (Below.refl _ _).alloc (Nat.le_refl _) _ | exact ((Below.refl _ _).alloc (Nat.le_refl _) _).alloc (by simp) _ | exact (((Below.refl _ _).alloc (Nat.le_refl _) _).alloc (by simp) _).drew | exact ((((Below.refl _ _).alloc (Nat.le_refl _) _).alloc (by simp) _).drew).drew | exact (((((Below.refl _ _).alloc (Nat.le_refl _) _).alloc (by simp) _).drew).drew).drew
  ·skip
   have hr0 : 0 < ((s.extract (k + 1) s.size).extract (j + 1) (s.extract (k + 1) s.size).size).size := by rw [← aaQd]; exact List.length_pos_iff.2 zr
   have zra := abQa (s := (s.extract (k + 1) s.size).extract (j + 1) (s.extract (k + 1) s.size).size) (by exact hr0)
   have zrb : ((s.extract (k + 1) s.size).extract (j + 1) (s.extract (k + 1) s.size).size).toList ≠ [] := by intro h; rw [h] at zra; cases zra
   by_cases zv : ((s.extract (k + 1) s.size).extract 0 j).data.toList = []
   ·skip
    have HP := hQQ (HP0.out.trans (acQ3 hj45 hjn (.inl (LV ▸ zv))))
    have zva : ((s.extract (k + 1) s.size).extract 0 j).toList.isEmpty = true := by rw [ByteArray.toList_eq, zv]; rfl
    have zvb : ((s.extract (k + 1) s.size).extract 0 j).toList = [] := by rw [ByteArray.toList_eq, zv]
    clear zr zv hr0 LV LR hj45 hjn HP0 CC
    go_enter Tryz.func119, Tryz.ntmps119
    go_wp2_with fail
    refine (CM.out _).mono ?_
    rintro e w1 ⟨rfl, rfl⟩
    go_wp2_with fail
    refine (CI.out _).mono ?_
    rintro e w1 ⟨rfl, rfl⟩
    go_wp2_with fail
    go_region
    generalize s.extract (k + 1) s.size = t at *
    go_wp2_with fail
    refine (CE.out _).mono ?_
    rintro e w1 ⟨rfl, rfl⟩
    go_wp2_with fail
    refine (CL.out _).mono ?_
    rintro e w1 ⟨rfl, rfl⟩
    go_wp2_with fail
    go_region
    all_goals go_wp2_with fail
    all_goals
     refine bodyPost_ret (v := .tuple #[.agg #[.string ⟨#[]⟩, .string ⟨#[]⟩, .string ⟨#[]⟩], .bool false]) (by simp [results, Tryz.results119, go_sem]) rfl (SplitPost.mk_none HP.out ?_)
     first | exact (Below.refl _ _).alloc (Nat.le_refl _) _ | exact ((Below.refl _ _).alloc (Nat.le_refl _) _).alloc (by simp) _ | exact (((Below.refl _ _).alloc (Nat.le_refl _) _).alloc (by simp) _).drew | exact ((((Below.refl _ _).alloc (Nat.le_refl _) _).alloc (by simp) _).drew).drew | exact (((((Below.refl _ _).alloc (Nat.le_refl _) _).alloc (by simp) _).drew).drew).drew
   ·skip
    have hv0 : 0 < ((s.extract (k + 1) s.size).extract 0 j).size := by rw [← aaQd]; exact List.length_pos_iff.2 zv
    have zva := abQa (s := (s.extract (k + 1) s.size).extract 0 j) (by exact hv0)
    have zvb : ((s.extract (k + 1) s.size).extract 0 j).toList ≠ [] := by intro h; rw [h] at zva; cases zva
    by_cases hc2 : (58 : UInt8) ∈ (s.extract (k + 1) s.size).data.toList
    ·skip
     have HP := hQQ (HP0.out.trans (adQl hc2))
     rw [show decide ((58 : UInt8) ∈ (s.extract (k + 1) s.size).data.toList) = true from decide_eq_true hc2] at CC
     clear zr zv hr0 hv0 LV LR hj45 hjn HP0 hc2
     go_enter Tryz.func119, Tryz.ntmps119
     go_wp2_with fail
     refine (CM.out _).mono ?_
     rintro e w1 ⟨rfl, rfl⟩
     go_wp2_with fail
     refine (CI.out _).mono ?_
     rintro e w1 ⟨rfl, rfl⟩
     go_wp2_with fail
     go_region
     generalize s.extract (k + 1) s.size = t at *
     go_wp2_with fail
     refine (CE.out _).mono ?_
     rintro e w1 ⟨rfl, rfl⟩
     go_wp2_with fail
     refine (CL.out _).mono ?_
     rintro e w1 ⟨rfl, rfl⟩
     go_wp2_with fail
     go_region
     all_goals
      go_wp2_with fail
      refine (CC.out _).mono ?_
      rintro e w1 ⟨rfl, rfl⟩
      go_wp2_with fail
      refine bodyPost_ret (v := .tuple #[.agg #[.string ⟨#[]⟩, .string ⟨#[]⟩, .string ⟨#[]⟩], .bool false]) (by simp [results, Tryz.results119, go_sem]) rfl (SplitPost.mk_none HP.out ?_)
      first | exact (Below.refl _ _).alloc (Nat.le_refl _) _ | exact ((Below.refl _ _).alloc (Nat.le_refl _) _).alloc (by simp) _ | exact (((Below.refl _ _).alloc (Nat.le_refl _) _).alloc (by simp) _).drew | exact ((((Below.refl _ _).alloc (Nat.le_refl _) _).alloc (by simp) _).drew).drew | exact (((((Below.refl _ _).alloc (Nat.le_refl _) _).alloc (by simp) _).drew).drew).drew
    ·skip
     have HP : Hid (parse s.data.toList = some ⟨((s.extract 0 k)).data.toList, ((s.extract (k + 1) s.size).extract 0 j).data.toList, ((s.extract (k + 1) s.size).extract (j + 1) (s.extract (k + 1) s.size).size).data.toList⟩) := by
      refine HP0.out.trans ?_
      rw [agQu hc2 hj45 hjn, ← LV, ← LR, if_neg (fun h => h.elim zv zr), acQa s k]
      try rfl
     rw [show decide ((58 : UInt8) ∈ (s.extract (k + 1) s.size).data.toList) = false from decide_eq_false hc2] at CC
     clear zr zv hr0 hv0 LV LR hj45 hjn HP0 hc2
     go_enter Tryz.func119, Tryz.ntmps119
     go_wp2_with fail
     refine (CM.out _).mono ?_
     rintro e w1 ⟨rfl, rfl⟩
     go_wp2_with fail
     refine (CI.out _).mono ?_
     rintro e w1 ⟨rfl, rfl⟩
     go_wp2_with fail
     go_region
     generalize s.extract (k + 1) s.size = t at *
     go_wp2_with fail
     refine (CE.out _).mono ?_
     rintro e w1 ⟨rfl, rfl⟩
     go_wp2_with fail
     refine (CL.out _).mono ?_
     rintro e w1 ⟨rfl, rfl⟩
     go_wp2_with fail
     go_region
     all_goals
      go_wp2_with fail
      refine (CC.out _).mono ?_
      rintro e w1 ⟨rfl, rfl⟩
      go_wp2_with fail
      refine bodyPost_ret (v := .tuple #[.agg #[.string (s.extract 0 k), .string (t.extract 0 j), .string (t.extract (j + 1) t.size)], .bool true]) (by simp [results, Tryz.results119, go_sem]) rfl (SplitPost.mk_some HP.out ?_)
      first | exact (Below.refl _ _).alloc (Nat.le_refl _) _ | exact ((Below.refl _ _).alloc (Nat.le_refl _) _).alloc (by simp) _ | exact (((Below.refl _ _).alloc (Nat.le_refl _) _).alloc (by simp) _).drew | exact ((((Below.refl _ _).alloc (Nat.le_refl _) _).alloc (by simp) _).drew).drew | exact (((((Below.refl _ _).alloc (Nat.le_refl _) _).alloc (by simp) _).drew).drew).drew
 ·skip
  have CL := hQQ (fun w => Tryz.strings_LastIndexByte ((s.extract (k + 1) s.size)) 45 (by omega) w)
  rw [show (45 : Int) = ((45 : UInt8).toNat : Int) from rfl, arQc hd] at CL
  change Hid (∀ w, Calls Tryz.prog 179 #[.string ((s.extract (k + 1) s.size)), .int .u8 45] w fun e w' => e = .returned (.int .i64 (-1)) ∧ w' = w) at CL
  have CC := hQQ (fun w => Tryz.strings_Contains_one ((s.extract (k + 1) s.size)) 58 w)
  rw [indexB_ge] at CC
  by_cases zv : ((s.extract (k + 1) s.size)).data.toList = []
  ·skip
   have HP : Hid (parse s.data.toList = none) := HP0.out.trans (by rw [aeQg (by rw [zv]; simp) hd, if_pos zv])
   have zva : ((s.extract (k + 1) s.size)).toList.isEmpty = true := by rw [ByteArray.toList_eq, zv]; rfl
   have zvb : ((s.extract (k + 1) s.size)).toList = [] := by rw [ByteArray.toList_eq, zv]
   clear zv hd HP0 CC
   go_enter Tryz.func119, Tryz.ntmps119
   go_wp2_with fail
   refine (CM.out _).mono ?_
   rintro e w1 ⟨rfl, rfl⟩
   go_wp2_with fail
   refine (CI.out _).mono ?_
   rintro e w1 ⟨rfl, rfl⟩
   go_wp2_with fail
   go_region
   generalize s.extract (k + 1) s.size = t at *
   go_wp2_with fail
   refine (CE.out _).mono ?_
   rintro e w1 ⟨rfl, rfl⟩
   go_wp2_with fail
   refine (CL.out _).mono ?_
   rintro e w1 ⟨rfl, rfl⟩
   go_wp2_with fail
   refine bodyPost_ret (v := .tuple #[.agg #[.string ⟨#[]⟩, .string ⟨#[]⟩, .string ⟨#[]⟩], .bool false]) (by simp [results, Tryz.results119, go_sem]) rfl (SplitPost.mk_none HP.out ?_)
   first | exact (Below.refl _ _).alloc (Nat.le_refl _) _ | exact ((Below.refl _ _).alloc (Nat.le_refl _) _).alloc (by simp) _ | exact (((Below.refl _ _).alloc (Nat.le_refl _) _).alloc (by simp) _).drew | exact ((((Below.refl _ _).alloc (Nat.le_refl _) _).alloc (by simp) _).drew).drew | exact (((((Below.refl _ _).alloc (Nat.le_refl _) _).alloc (by simp) _).drew).drew).drew
  ·skip
   have hv0 : 0 < ((s.extract (k + 1) s.size)).size := by rw [← aaQd]; exact List.length_pos_iff.2 zv
   have zva := abQa (s := (s.extract (k + 1) s.size)) (by exact hv0)
   have zvb : ((s.extract (k + 1) s.size)).toList ≠ [] := by intro h; rw [h] at zva; cases zva
   by_cases hc2 : (58 : UInt8) ∈ (s.extract (k + 1) s.size).data.toList
   ·skip
    have HP := hQQ (HP0.out.trans (adQl hc2))
    rw [show decide ((58 : UInt8) ∈ (s.extract (k + 1) s.size).data.toList) = true from decide_eq_true hc2] at CC
    clear zv hv0 hd HP0 hc2
    go_enter Tryz.func119, Tryz.ntmps119
    go_wp2_with fail
    refine (CM.out _).mono ?_
    rintro e w1 ⟨rfl, rfl⟩
    go_wp2_with fail
    refine (CI.out _).mono ?_
    rintro e w1 ⟨rfl, rfl⟩
    go_wp2_with fail
    go_region
    generalize s.extract (k + 1) s.size = t at *
    go_wp2_with fail
    refine (CE.out _).mono ?_
    rintro e w1 ⟨rfl, rfl⟩
    go_wp2_with fail
    refine (CL.out _).mono ?_
    rintro e w1 ⟨rfl, rfl⟩
    go_wp2_with fail
    refine (CC.out _).mono ?_
    rintro e w1 ⟨rfl, rfl⟩
    go_wp2_with fail
    refine bodyPost_ret (v := .tuple #[.agg #[.string ⟨#[]⟩, .string ⟨#[]⟩, .string ⟨#[]⟩], .bool false]) (by simp [results, Tryz.results119, go_sem]) rfl (SplitPost.mk_none HP.out ?_)
    first | exact (Below.refl _ _).alloc (Nat.le_refl _) _ | exact ((Below.refl _ _).alloc (Nat.le_refl _) _).alloc (by simp) _ | exact (((Below.refl _ _).alloc (Nat.le_refl _) _).alloc (by simp) _).drew | exact ((((Below.refl _ _).alloc (Nat.le_refl _) _).alloc (by simp) _).drew).drew | exact (((((Below.refl _ _).alloc (Nat.le_refl _) _).alloc (by simp) _).drew).drew).drew
   ·skip
    have HP : Hid (parse s.data.toList = some ⟨((s.extract 0 k)).data.toList, ((s.extract (k + 1) s.size)).data.toList, (⟨#[]⟩ : ByteArray).data.toList⟩) := by
     refine HP0.out.trans ?_
     rw [aeQg hc2 hd, if_neg zv, acQa s k]
     try rfl
    rw [show decide ((58 : UInt8) ∈ (s.extract (k + 1) s.size).data.toList) = false from decide_eq_false hc2] at CC
    clear zv hv0 hd HP0 hc2
    go_enter Tryz.func119, Tryz.ntmps119
    go_wp2_with fail
    refine (CM.out _).mono ?_
    rintro e w1 ⟨rfl, rfl⟩
    go_wp2_with fail
    refine (CI.out _).mono ?_
    rintro e w1 ⟨rfl, rfl⟩
    go_wp2_with fail
    go_region
    generalize s.extract (k + 1) s.size = t at *
    go_wp2_with fail
    refine (CE.out _).mono ?_
    rintro e w1 ⟨rfl, rfl⟩
    go_wp2_with fail
    refine (CL.out _).mono ?_
    rintro e w1 ⟨rfl, rfl⟩
    go_wp2_with fail
    refine (CC.out _).mono ?_
    rintro e w1 ⟨rfl, rfl⟩
    go_wp2_with fail
    refine bodyPost_ret (v := .tuple #[.agg #[.string (s.extract 0 k), .string t, .string ⟨#[]⟩], .bool true]) (by simp [results, Tryz.results119, go_sem]) rfl (SplitPost.mk_some HP.out ?_)
    first | exact (Below.refl _ _).alloc (Nat.le_refl _) _ | exact ((Below.refl _ _).alloc (Nat.le_refl _) _).alloc (by simp) _ | exact (((Below.refl _ _).alloc (Nat.le_refl _) _).alloc (by simp) _).drew | exact ((((Below.refl _ _).alloc (Nat.le_refl _) _).alloc (by simp) _).drew).drew | exact (((((Below.refl _ _).alloc (Nat.le_refl _) _).alloc (by simp) _).drew).drew).drew
theorem aqQa (s : ByteArray) (w : World) : Calls Tryz.prog 119 #[.string s] w (SplitPost w (parse s.data.toList)) := by
 by_cases h : s.size ≤ 60
 ·cases hm : s.data.toList.all isMay with
  | false => exact apQ9 s h hm w
  | true =>
    by_cases hc : (58 : UInt8) ∈ s.data.toList
    ·by_cases hg : (s.data.toList.takeWhile (· != 58)).length ≠ 0 ∧ (s.data.toList.takeWhile (· != 58)).length ≤ 9 ∧ (s.data.toList.take (s.data.toList.takeWhile (· != 58)).length).all isDg = true
     ·exact alQ9 s h hm hc w (fun k hk => hk ▸ hg)
     ·exact alQ8 s h hm hc w (fun k hk => hk ▸ hg)
    ·exact alQ7 s h hm hc w
 ·exact aoQj s (by omega) w
def KeepG (w0 : World) (g : Nat) (cg : Array Value) (h : Nat) (ch : Array Value) (w : World) : Prop := Blk w g 101 cg ∧ Blk w h 101 ch ∧ Below w0.heap.size w0 w
theorem KeepG.below {w0 w w' : World} {g h : Nat} {cg ch : Array Value} (k : KeepG w0 g cg h ch w) (hb : Below w.heap.size w w') : KeepG w0 g cg h ch w' :=
 ⟨k.1.below hb k.1.lt, k.2.1.below hb k.2.1.lt, k.2.2.trans (hb.mono k.2.2.size)⟩
theorem KeepG.set {w0 w : World} {g h : Nat} {cg ch : Array Value} (p : KeepG w0 g cg h ch w) {k : Nat} {u : Value} (hu : ch.setIfInBounds k u = ch) (hh : g ≠ h ∧ w0.heap.size ≤ h) : KeepG w0 g cg h ch (w.setCell ⟨h, k, none⟩ u) :=
 ⟨p.1.far hh.1 _, by have := p.2.1.set_ k u; rwa [hu] at this, p.2.2.setCell hh.2 _⟩
set_option maxRecDepth 100000 in
theorem adQh (s : ByteArray) (hs : s.size ≤ 60) (w : World) : Calls Tryz.prog 48 #[.string s] w fun e w' => e = .returned (.string s) ∧ Below w.heap.size w w' := by
 have C := hQQ (fun w => Tryz.stringslite_Clone s w (by omega))
 go_enter Tryz.func48, Tryz.ntmps48
 go_wp2_with fail
 refine (C.out _).mono ?_
 rintro e w1 ⟨rfl, hb1⟩
 go_wp2_with fail
 go_ret
 exact ⟨rfl, hb1⟩
theorem alQm {c : UInt8} {l a b : List UInt8} (h : cutAt c l = some (a, b)) : a.length + b.length < l.length := by
 unfold cutAt at h
 split at h
 ·rename_i hc
  injection h with h
  injection h with h1 h2
  subst h1; subst h2
  have h3 := agQg hc
  rw [afQb, List.tail_drop, List.length_drop]
  omega
 ·cases h
theorem apQ4 {e l : List UInt8} {p : Parts} (h : vr e l = some p) : p.e = e ∧ p.v.length + p.r.length ≤ l.length := by
 unfold vr at h
 split at h
 ·cases h
 ·split at h
  ·rename_i v r hc
   split at h
   ·cases h
   ·injection h with h; subst h
    refine ⟨rfl, ?_⟩
    unfold afQ1 at hc
    cases hx : cutAt 45 l.reverse with
    | none => rw [hx] at hc; cases hc
    | some q =>
      rw [hx] at hc
      injection hc with hc
      injection hc with h1 h2
      subst h1; subst h2
      have := alQm (a := q.1) (b := q.2) hx
      simp only [List.length_reverse] at this ⊢
      omega
  ·split at h
   ·cases h
   ·injection h with h; subst h; simp
theorem aoQ7 {l : List UInt8} {p : Parts} (h : parse l = some p) : p.e.length ≤ 60 ∧ p.v.length ≤ 60 ∧ p.r.length ≤ 60 ∧ p.v.length + p.r.length ≤ l.length ∧ l.length ≤ 60 := by
 unfold parse at h
 split at h
 ·rename_i hl
  split at h
  ·rename_i e t hc
   split at h
   ·rename_i he
    have h1 := apQ4 h
    have h2 := alQm hc
    rw [h1.1]
    omega
   ·cases h
  ·have h1 := apQ4 h
   rw [h1.1]
   simp
   omega
 ·cases h
def errV : Option Parts → Int
 | none => 30
 | some _ => 0
theorem aaQg (l : List UInt8) : (mkS l).size = l.length := by rw [← aaQd]; rfl
set_option maxHeartbeats 1000000 in
set_option maxRecDepth 100000 in
theorem akQu (s : ByteArray) (w0 : World) : Calls Tryz.prog 57 #[.string s] w0 fun e w' => e = .returned (.tuple #[evrV (parse s.data.toList), .int .i64 (errV (parse s.data.toList))]) ∧ Below w0.heap.size w0 w' := by
 have C := hQQ (fun w => aqQa s w)
 cases hp : parse s.data.toList with
 | none =>
   rw [hp] at C
   clear hp
   go_enter Tryz.func57, Tryz.ntmps57
   go_wp2_with fail
   refine (C.out _).mono ?_
   rintro e w1 ⟨rfl, hb1⟩
   have K1 := (Blk.new w0 101 #[Value.string ⟨#[]⟩, .string ⟨#[]⟩, .string ⟨#[]⟩]).below hb1 (by simp)
   have HB : Hid (Below w0.heap.size w0 w1) := ((Below.refl _ _).alloc (Nat.le_refl _) _).trans (hb1.mono (by simp))
   have hz := hb1.size
   simp only [World.size_alloc] at hz
   have hlt : w0.heap.size < w1.heap.size := by omega
   have hne : w0.heap.size ≠ w1.heap.size := by omega
   have c0 : w1.cell? ⟨w0.heap.size, 0, none⟩ = some (.string ⟨#[]⟩) := K1.cell 0
   have c1 : w1.cell? ⟨w0.heap.size, 1, none⟩ = some (.string ⟨#[]⟩) := K1.cell 1
   have c2 : w1.cell? ⟨w0.heap.size, 2, none⟩ = some (.string ⟨#[]⟩) := K1.cell 2
   have f0 := K1.free 0
   have f1 := K1.free 1
   have f2 := K1.free 2
   have KK := hQQ K1
   clear K1 hb1 C
   unfold evrV
   go_wp2_with fail
   refine bodyPost_ret (v := .tuple #[.agg #[.string ⟨#[]⟩, .string ⟨#[]⟩, .string ⟨#[]⟩], .int .i64 30]) (by simp [results, Tryz.results57, go_sem, hlt, hne, c0, c1, c2, f0, f1, f2]) rfl ⟨rfl, ?_⟩
   exact (((HB.out.setCell (Nat.le_refl _) _).setCell (Nat.le_refl _) _).setCell (Nat.le_refl _) _).alloc (by simp; omega) _
 | some p =>
   rw [hp] at C
   have hsz := aoQ7 hp
   obtain ⟨e, he⟩ : ∃ e, e = mkS p.e := ⟨_, rfl⟩
   obtain ⟨v, hv⟩ : ∃ v, v = mkS p.v := ⟨_, rfl⟩
   obtain ⟨r, hr⟩ : ∃ r, r = mkS p.r := ⟨_, rfl⟩
   have se : e.size ≤ 60 := by rw [he, aaQg]; omega
   have sv : v.size ≤ 60 := by rw [hv, aaQg]; omega
   have sr : r.size ≤ 60 := by rw [hr, aaQg]; omega
   have EV : Hid (evrV (some p) = .agg #[.string e, .string v, .string r]) := by show evrV _ = _; rw [he, hv, hr]; rfl
   unfold SplitPost at C
   rw [EV.out] at C
   have EV2 := hQQ EV.out
   rw [EV.out]
   clear hp hsz he hv hr EV EV2
   go_enter Tryz.func57, Tryz.ntmps57
   go_wp2_with fail
   refine (C.out _).mono ?_
   rintro e' w1 ⟨rfl, hb1⟩
   have K1 := hQQ ((Blk.new w0 101 #[Value.string ⟨#[]⟩, .string ⟨#[]⟩, .string ⟨#[]⟩]).below hb1 (by simp))
   have HB : Hid (Below w0.heap.size w0 w1) := ((Below.refl _ _).alloc (Nat.le_refl _) _).trans (hb1.mono (by simp))
   have hz := hb1.size
   simp only [World.size_alloc] at hz
   have hg : w0.heap.size ≠ w1.heap.size ∧ w0.heap.size ≤ w1.heap.size := by omega
   clear hb1 C
   go_wp2_with fail
   refine aaQu (fun _ w => KeepG w0 w0.heap.size #[Value.string ⟨#[]⟩, .string ⟨#[]⟩, .string ⟨#[]⟩] w1.heap.size #[Value.string e, .string v, .string r] w) (by kernel_rfl) ?_ (fun hS => ?_)
   ·exact ⟨K1.out.alloc _, Blk.new _ _ _, (HB.out.alloc hg.2 _).drew⟩
   refine aaQa (i := 0) (KeepG w0 w0.heap.size #[Value.string ⟨#[]⟩, .string ⟨#[]⟩, .string ⟨#[]⟩] w1.heap.size #[Value.string e, .string v, .string r]) (v := .pointer (some ⟨w1.heap.size, 0, none⟩)) rfl (by kernel_rfl) (by kernel_rfl) (by kernel_rfl) (fun _ _ _ h => h) (fun _ _ _ h => h) (fun _ _ => Iff.rfl) (by kernel_rfl) hS (fun w' hSw => ?_) (by rfl) (fun hS => ?_)
   ·go_simp
   try simp only [Act.put, List.setIfInBounds_toArray, List.set_cons_zero, List.set_cons_succ]
   refine aaQa (i := 1) (KeepG w0 w0.heap.size #[Value.string ⟨#[]⟩, .string ⟨#[]⟩, .string ⟨#[]⟩] w1.heap.size #[Value.string e, .string v, .string r]) (v := .string e) rfl (by kernel_rfl) (by kernel_rfl) (by kernel_rfl) (fun _ _ _ h => h) (fun _ _ _ h => h) (fun _ _ => Iff.rfl) (by kernel_rfl) hS (fun w' hSw => ?_) (by rfl) (fun hS => ?_)
   ·have c : w'.cell? ⟨w1.heap.size, 0, none⟩ = some (.string e) := hSw.2.1.cell 0
    go_simp
   try simp only [Act.put, List.setIfInBounds_toArray, List.set_cons_zero, List.set_cons_succ]
   refine aaQa (i := 3) (KeepG w0 w0.heap.size #[Value.string ⟨#[]⟩, .string ⟨#[]⟩, .string ⟨#[]⟩] w1.heap.size #[Value.string e, .string v, .string r]) (v := .pointer (some ⟨w1.heap.size, 1, none⟩)) rfl (by kernel_rfl) (by kernel_rfl) (by kernel_rfl) (fun _ _ _ h => h) (fun _ _ _ h => h) (fun _ _ => Iff.rfl) (by kernel_rfl) hS (fun w' hSw => ?_) (by rfl) (fun hS => ?_)
   ·go_simp
   try simp only [Act.put, List.setIfInBounds_toArray, List.set_cons_zero, List.set_cons_succ]
   refine aaQa (i := 4) (KeepG w0 w0.heap.size #[Value.string ⟨#[]⟩, .string ⟨#[]⟩, .string ⟨#[]⟩] w1.heap.size #[Value.string e, .string v, .string r]) (v := .string v) rfl (by kernel_rfl) (by kernel_rfl) (by kernel_rfl) (fun _ _ _ h => h) (fun _ _ _ h => h) (fun _ _ => Iff.rfl) (by kernel_rfl) hS (fun w' hSw => ?_) (by rfl) (fun hS => ?_)
   ·have c : w'.cell? ⟨w1.heap.size, 1, none⟩ = some (.string v) := hSw.2.1.cell 1
    go_simp
   try simp only [Act.put, List.setIfInBounds_toArray, List.set_cons_zero, List.set_cons_succ]
   refine aaQa (i := 6) (KeepG w0 w0.heap.size #[Value.string ⟨#[]⟩, .string ⟨#[]⟩, .string ⟨#[]⟩] w1.heap.size #[Value.string e, .string v, .string r]) (v := .pointer (some ⟨w1.heap.size, 2, none⟩)) rfl (by kernel_rfl) (by kernel_rfl) (by kernel_rfl) (fun _ _ _ h => h) (fun _ _ _ h => h) (fun _ _ => Iff.rfl) (by kernel_rfl) hS (fun w' hSw => ?_) (by rfl) (fun hS => ?_)
   ·go_simp
   try simp only [Act.put, List.setIfInBounds_toArray, List.set_cons_zero, List.set_cons_succ]
   refine aaQa (i := 7) (KeepG w0 w0.heap.size #[Value.string ⟨#[]⟩, .string ⟨#[]⟩, .string ⟨#[]⟩] w1.heap.size #[Value.string e, .string v, .string r]) (v := .string r) rfl (by kernel_rfl) (by kernel_rfl) (by kernel_rfl) (fun _ _ _ h => h) (fun _ _ _ h => h) (fun _ _ => Iff.rfl) (by kernel_rfl) hS (fun w' hSw => ?_) (by rfl) (fun hS => ?_)
   ·have c : w'.cell? ⟨w1.heap.size, 2, none⟩ = some (.string r) := hSw.2.1.cell 2
    go_simp
   try simp only [Act.put, List.setIfInBounds_toArray, List.set_cons_zero, List.set_cons_succ]
   refine aaQb (i := 2) (by kernel_rfl) rfl (fun K hK => ?_)
   go_simp
   refine (adQh e (by omega) _).mono ?_
   rintro e' w3 ⟨rfl, hb3⟩
   refine hK.out _ _ (hS.below hb3) (fun hS => ?_)
   clear hK K
   try simp only [Act.put, List.setIfInBounds_toArray, List.set_cons_zero, List.set_cons_succ]
   refine aaQa (i := 9) (KeepG w0 w0.heap.size #[Value.string ⟨#[]⟩, .string ⟨#[]⟩, .string ⟨#[]⟩] w1.heap.size #[Value.string e, .string v, .string r]) (v := .pointer (some ⟨w1.heap.size, 0, none⟩)) rfl (by kernel_rfl) (by kernel_rfl) (by kernel_rfl) (fun _ _ _ h => h) (fun _ _ _ h => h) (fun _ _ => Iff.rfl) (by kernel_rfl) hS (fun w' hSw => ?_) (by rfl) (fun hS => ?_)
   ·go_simp
   try simp only [Act.put, List.setIfInBounds_toArray, List.set_cons_zero, List.set_cons_succ]
   refine aaQb (i := 5) (by kernel_rfl) rfl (fun K hK => ?_)
   go_simp
   refine (adQh v (by omega) _).mono ?_
   rintro e' w4 ⟨rfl, hb4⟩
   refine hK.out _ _ (hS.below hb4) (fun hS => ?_)
   clear hK K
   try simp only [Act.put, List.setIfInBounds_toArray, List.set_cons_zero, List.set_cons_succ]
   refine aaQb (i := 8) (by kernel_rfl) rfl (fun K hK => ?_)
   go_simp
   refine (adQh r (by omega) _).mono ?_
   rintro e' w5 ⟨rfl, hb5⟩
   refine hK.out _ _ (hS.below hb5) (fun hS => ?_)
   clear hK K
   try simp only [Act.put, List.setIfInBounds_toArray, List.set_cons_zero, List.set_cons_succ]
   have c0 := hS.2.1.cell 0
   have f0 := hS.2.1.free 0
   refine aaQb (i := 10) (by kernel_rfl) rfl (fun K hK => ?_)
   go_simp
   refine hK.out _ _ (hS.set (k := 0) rfl hg) (fun hS => ?_)
   clear hK K
   try simp only [Act.put, List.setIfInBounds_toArray, List.set_cons_zero, List.set_cons_succ]
   clear c0 f0
   refine aaQa (i := 11) (KeepG w0 w0.heap.size #[Value.string ⟨#[]⟩, .string ⟨#[]⟩, .string ⟨#[]⟩] w1.heap.size #[Value.string e, .string v, .string r]) (v := .pointer (some ⟨w1.heap.size, 1, none⟩)) rfl (by kernel_rfl) (by kernel_rfl) (by kernel_rfl) (fun _ _ _ h => h) (fun _ _ _ h => h) (fun _ _ => Iff.rfl) (by kernel_rfl) hS (fun w' hSw => ?_) (by rfl) (fun hS => ?_)
   ·go_simp
   try simp only [Act.put, List.setIfInBounds_toArray, List.set_cons_zero, List.set_cons_succ]
   have c1 := hS.2.1.cell 1
   have f1 := hS.2.1.free 1
   refine aaQb (i := 12) (by kernel_rfl) rfl (fun K hK => ?_)
   go_simp
   refine hK.out _ _ (hS.set (k := 1) rfl hg) (fun hS => ?_)
   clear hK K
   try simp only [Act.put, List.setIfInBounds_toArray, List.set_cons_zero, List.set_cons_succ]
   clear c1 f1
   refine aaQa (i := 13) (KeepG w0 w0.heap.size #[Value.string ⟨#[]⟩, .string ⟨#[]⟩, .string ⟨#[]⟩] w1.heap.size #[Value.string e, .string v, .string r]) (v := .pointer (some ⟨w1.heap.size, 2, none⟩)) rfl (by kernel_rfl) (by kernel_rfl) (by kernel_rfl) (fun _ _ _ h => h) (fun _ _ _ h => h) (fun _ _ => Iff.rfl) (by kernel_rfl) hS (fun w' hSw => ?_) (by rfl) (fun hS => ?_)
   ·go_simp
   try simp only [Act.put, List.setIfInBounds_toArray, List.set_cons_zero, List.set_cons_succ]
   have c2 := hS.2.1.cell 2
   have f2 := hS.2.1.free 2
   refine aaQb (i := 14) (by kernel_rfl) rfl (fun K hK => ?_)
   go_simp
   refine hK.out _ _ (hS.set (k := 2) rfl hg) (fun hS => ?_)
   clear hK K
   try simp only [Act.put, List.setIfInBounds_toArray, List.set_cons_zero, List.set_cons_succ]
   clear c2 f2
   refine aaQh (by kernel_rfl) ?_ _
   generalize ((w5.setCell ⟨w1.heap.size, 0, none⟩ (.string e)).setCell ⟨w1.heap.size, 1, none⟩ (.string v)).setCell ⟨w1.heap.size, 2, none⟩ (.string r) = w6 at *
   have c0 : w6.cell? ⟨w1.heap.size, 0, none⟩ = some (.string e) := hS.2.1.cell 0
   have c1 : w6.cell? ⟨w1.heap.size, 1, none⟩ = some (.string v) := hS.2.1.cell 1
   have c2 : w6.cell? ⟨w1.heap.size, 2, none⟩ = some (.string r) := hS.2.1.cell 2
   have d0 : w6.cell? ⟨w0.heap.size, 0, none⟩ = some (.string ⟨#[]⟩) := hS.1.cell 0
   have d1 : w6.cell? ⟨w0.heap.size, 1, none⟩ = some (.string ⟨#[]⟩) := hS.1.cell 1
   have d2 : w6.cell? ⟨w0.heap.size, 2, none⟩ = some (.string ⟨#[]⟩) := hS.1.cell 2
   have f0 := hS.1.free 0
   have f1 := hS.1.free 1
   have f2 := hS.1.free 2
   have HB6 := hQQ hS.2.2
   clear hS
   go_wp2_with fail
   refine bodyPost_ret (v := .tuple #[.agg #[.string e, .string v, .string r], .int .i64 0]) (by simp [results, Tryz.results57, go_sem, d0, d1, d2, f0, f1, f2]) rfl ⟨rfl, ?_⟩
   exact ((HB6.out.setCell (Nat.le_refl _) _).setCell (Nat.le_refl _) _).setCell (Nat.le_refl _) _
theorem no_at {l : List UInt8} {c : UInt8} (hn : ∀ j : Nat, j < l.length → l[j]? ≠ some c) : c ∉ l := fun hm => by
 obtain ⟨j, hj, e⟩ := List.mem_iff_getElem.1 hm
 exact hn j hj (by rw [List.getElem?_eq_getElem hj, e])
theorem abQu {c : UInt8} {d : UInt8} {n : Int} (hn : (d.toNat : Int) = n) (h : c = d) : ((c.toNat : Int) == n) = true ∧ ((c.toNat : Int) != n) = false := by
 subst h; subst hn; simp
theorem aaQ6 {c : UInt8} {d : UInt8} {n : Int} (hn : (d.toNat : Int) = n) (h : ¬ c = d) : ((c.toNat : Int) == n) = false ∧ ((c.toNat : Int) != n) = true := by
 have : ¬ (c.toNat : Int) = n := fun e => h (UInt8.toNat_inj.1 (by omega))
 exact ⟨beq_eq_false_iff_ne.2 this, by simp [bne, beq_eq_false_iff_ne.2 this]⟩
theorem abQg {s : ByteArray} (h : s.size ≠ 0) : s.toList.isEmpty = false ∧ ¬ s.toList = [] ∧ s.data.toList ≠ [] := by
 have hp : 0 < s.size := by omega
 refine ⟨abQa hp, ?_, ?_⟩
 ·intro e; have := abQa hp; rw [e] at this; cases this
 ·intro e; have := aaQd s; rw [e] at this; simp at this; omega
end Go.Proofs.YtdhgiammfpjniaaGreatDoor.Ev
