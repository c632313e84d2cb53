/- A version taken apart: split, with an epoch. -/
import Derived.Test.YtdhgiammfpjniaaGreatDoorZaah
/- A version taken apart: split, with an epoch. -/
namespace Go.Proofs.YtdhgiammfpjniaaGreatDoor.Ev
set_option linter.unusedSimpArgs false
set_option linter.unusedVariables false
open Go.RowKit

set_option maxHeartbeats 8000000 in
set_option maxRecDepth 100000 in
theorem split_colon (s : ByteArray) (h : s.size ≤ 60) (hm : s.data.toList.all isMay = true) (hc : (58 : UInt8) ∈ s.data.toList) (w : World) (hgood : ∀ k, k = (s.data.toList.takeWhile (· != 58)).length → (k ≠ 0 ∧ k ≤ 9 ∧ (s.data.toList.take k).all isDg = true)) : Calls Tryz.prog 119 #[.string s] w (SplitPost w (parse s.data.toList)) := by
  have CM := Lib.hid (fun w => run_any mayBe_any (enters_of Tryz.func177 (by kernel_rfl) rfl) s (by unfold maxLen; omega) w)
  have CI := Lib.hid (fun w => Tryz.strings_IndexByte s 58 w)
  have h60 : (s.size : Int) ≤ 60 := by omega
  have h0 : (0 : Int) ≤ (s.size : Int) := by omega
  have HG := Lib.hid (show s.data.toList.length ≤ 60 ∧ s.data.toList.all isMay = true from ⟨by rw [size_len]; exact h, hm⟩)
  have hall := all_while hm
  rw [size_len] at hall
  have HCI := Lib.hid (index_yes hc)
  change Hid (∀ w, Calls Tryz.prog 43 #[.string s, .int .u8 58] w fun e w' => e = .returned (.int .i64 (Lib.indexByte s.data.toList 58)) ∧ w' = w) at CI
  rw [index_yes hc] at CI
  have HPC := Lib.hid (fun k hk => parse_colon HG.out hc (k := k) hk)
  have klt := while_lt hc
  rw [size_len] at klt
  rw [hall] at CM
  clear hm hall HCI
  obtain ⟨k, hk⟩ : ∃ k, k = (s.data.toList.takeWhile (· != 58)).length := ⟨_, rfl⟩
  have HP1 := Lib.hid (HPC.out k hk)
  have hgood := hgood k hk
  rw [← hk] at CI klt
  clear hk HPC hc
  have k0 : (0 : Int) ≤ (k : Int) := by omega
  have k1 : (k : Int) + 1 ≤ (s.size : Int) := by omega
  have k2 : (k : Int) ≤ (s.size : Int) := by omega
  have HP0 : Hid (parse s.data.toList = vr (s.data.toList.take k) (s.extract (k + 1) s.size).data.toList) := by
    show parse s.data.toList = _
    rw [bl_from]
    exact HP1.out.trans (if_pos hgood)
  obtain ⟨kz, k9, hdig⟩ := hgood
  have hw := all_while hdig
  rw [← bl_upto, size_len] at hw
  have hsz : (s.extract 0 k).size = k := by rw [← size_len, bl_upto, List.length_take, size_len]; omega
  rw [hsz] at hw
  have CE := Lib.hid (fun w => run_any isDigit_any (enters_of Tryz.func178 (by kernel_rfl) rfl) (s.extract 0 k) (by rw [hsz]; unfold maxLen; omega) w)
  rw [hw] at CE
  have k4 : ((k : Int) == 0) = false := by simp; omega
  have k6 : ¬ (9 : Int) < (k : Int) := by omega
  have ht60 : (s.extract (k + 1) s.size).size ≤ 60 := by rw [← size_len, bl_from, List.length_drop, size_len]; omega
  clear HP1 kz k9 hdig hw hsz
  by_cases hd : (45 : UInt8) ∈ (s.extract (k + 1) s.size).data.toList
  · skip
    obtain ⟨j, hj, ej, hj45, hjn⟩ := last_yes (s := (s.extract (k + 1) s.size)) hd
    have CL := Lib.hid (fun w => Tryz.strings_LastIndexByte ((s.extract (k + 1) s.size)) 45 (by omega) w)
    rw [show (45 : Int) = ((45 : UInt8).toNat : Int) from rfl, ej] at CL
    change Hid (∀ w, Calls Tryz.prog 179 #[.string ((s.extract (k + 1) s.size)), .int .u8 45] w fun e w' => e = .returned (.int .i64 (j : Int)) ∧ w' = w) at CL
    have CC := Lib.hid (fun w => Tryz.strings_Contains_one ((s.extract (k + 1) s.size)) 58 w)
    rw [indexB_ge] at CC
    have LV : ((s.extract (k + 1) s.size).extract 0 j).data.toList = (s.extract (k + 1) s.size).data.toList.take j := bl_upto _ _
    have LR : ((s.extract (k + 1) s.size).extract (j + 1) (s.extract (k + 1) s.size).size).data.toList = (s.extract (k + 1) s.size).data.toList.drop (j + 1) := bl_from _ _
    have j0 : (0 : Int) ≤ (j : Int) := by omega
    have j1 : (j : Int) + 1 ≤ ((s.extract (k + 1) s.size).size : Int) := by omega
    have j2 : (j : Int) ≤ ((s.extract (k + 1) s.size).size : Int) := by omega
    have j3 : ((s.extract (k + 1) s.size).size : Int) ≤ 60 := by omega
    clear hd ej hj
    by_cases zr : ((s.extract (k + 1) s.size).extract (j + 1) (s.extract (k + 1) s.size).size).data.toList = []
    · skip
      have HP := Lib.hid (HP0.out.trans (vr_empty hj45 hjn (.inr (LR ▸ zr))))
      have zra : ((s.extract (k + 1) s.size).extract (j + 1) (s.extract (k + 1) s.size).size).toList.isEmpty = true := by rw [ByteArray.toList_eq, zr]; rfl
      have zrb : ((s.extract (k + 1) s.size).extract (j + 1) (s.extract (k + 1) s.size).size).toList = [] := by rw [ByteArray.toList_eq, zr]
      clear zr LV LR hj45 hjn HP0 CC
      go_enter Tryz.func119, Tryz.ntmps119
      go_wp2_with fail
      refine (CM.out _).mono ?_
      rintro e w1 ⟨rfl, rfl⟩
      go_wp2_with fail
      refine (CI.out _).mono ?_
      rintro e w1 ⟨rfl, rfl⟩
      go_wp2_with fail
      go_region
      generalize s.extract (k + 1) s.size = t at *
      go_wp2_with fail
      refine (CE.out _).mono ?_
      rintro e w1 ⟨rfl, rfl⟩
      go_wp2_with fail
      refine (CL.out _).mono ?_
      rintro e w1 ⟨rfl, rfl⟩
      go_wp2_with fail
      go_region
      all_goals go_wp2_with fail
      all_goals
        refine bodyPost_ret (v := .tuple #[.agg #[.string ⟨#[]⟩, .string ⟨#[]⟩, .string ⟨#[]⟩], .bool false]) (by simp [results, Tryz.results119, go_sem]) rfl (SplitPost.mk_none HP.out ?_)
        first | exact (Below.refl _ _).alloc (Nat.le_refl _) _ | exact ((Below.refl _ _).alloc (Nat.le_refl _) _).alloc (by simp) _ | exact (((Below.refl _ _).alloc (Nat.le_refl _) _).alloc (by simp) _).drew | exact ((((Below.refl _ _).alloc (Nat.le_refl _) _).alloc (by simp) _).drew).drew | exact (((((Below.refl _ _).alloc (Nat.le_refl _) _).alloc (by simp) _).drew).drew).drew
    · skip
      have hr0 : 0 < ((s.extract (k + 1) s.size).extract (j + 1) (s.extract (k + 1) s.size).size).size := by rw [← size_len]; exact List.length_pos_iff.2 zr
      have zra := toList_cons (s := (s.extract (k + 1) s.size).extract (j + 1) (s.extract (k + 1) s.size).size) (by exact hr0)
      have zrb : ((s.extract (k + 1) s.size).extract (j + 1) (s.extract (k + 1) s.size).size).toList ≠ [] := by intro h; rw [h] at zra; cases zra
      by_cases zv : ((s.extract (k + 1) s.size).extract 0 j).data.toList = []
      · skip
        have HP := Lib.hid (HP0.out.trans (vr_empty hj45 hjn (.inl (LV ▸ zv))))
        have zva : ((s.extract (k + 1) s.size).extract 0 j).toList.isEmpty = true := by rw [ByteArray.toList_eq, zv]; rfl
        have zvb : ((s.extract (k + 1) s.size).extract 0 j).toList = [] := by rw [ByteArray.toList_eq, zv]
        clear zr zv hr0 LV LR hj45 hjn HP0 CC
        go_enter Tryz.func119, Tryz.ntmps119
        go_wp2_with fail
        refine (CM.out _).mono ?_
        rintro e w1 ⟨rfl, rfl⟩
        go_wp2_with fail
        refine (CI.out _).mono ?_
        rintro e w1 ⟨rfl, rfl⟩
        go_wp2_with fail
        go_region
        generalize s.extract (k + 1) s.size = t at *
        go_wp2_with fail
        refine (CE.out _).mono ?_
        rintro e w1 ⟨rfl, rfl⟩
        go_wp2_with fail
        refine (CL.out _).mono ?_
        rintro e w1 ⟨rfl, rfl⟩
        go_wp2_with fail
        go_region
        all_goals go_wp2_with fail
        all_goals
          refine bodyPost_ret (v := .tuple #[.agg #[.string ⟨#[]⟩, .string ⟨#[]⟩, .string ⟨#[]⟩], .bool false]) (by simp [results, Tryz.results119, go_sem]) rfl (SplitPost.mk_none HP.out ?_)
          first | exact (Below.refl _ _).alloc (Nat.le_refl _) _ | exact ((Below.refl _ _).alloc (Nat.le_refl _) _).alloc (by simp) _ | exact (((Below.refl _ _).alloc (Nat.le_refl _) _).alloc (by simp) _).drew | exact ((((Below.refl _ _).alloc (Nat.le_refl _) _).alloc (by simp) _).drew).drew | exact (((((Below.refl _ _).alloc (Nat.le_refl _) _).alloc (by simp) _).drew).drew).drew
      · skip
        have hv0 : 0 < ((s.extract (k + 1) s.size).extract 0 j).size := by rw [← size_len]; exact List.length_pos_iff.2 zv
        have zva := toList_cons (s := (s.extract (k + 1) s.size).extract 0 j) (by exact hv0)
        have zvb : ((s.extract (k + 1) s.size).extract 0 j).toList ≠ [] := by intro h; rw [h] at zva; cases zva
        by_cases hc2 : (58 : UInt8) ∈ (s.extract (k + 1) s.size).data.toList
        · skip
          have HP := Lib.hid (HP0.out.trans (vr_colon hc2))
          rw [show decide ((58 : UInt8) ∈ (s.extract (k + 1) s.size).data.toList) = true from decide_eq_true hc2] at CC
          clear zr zv hr0 hv0 LV LR hj45 hjn HP0 hc2
          go_enter Tryz.func119, Tryz.ntmps119
          go_wp2_with fail
          refine (CM.out _).mono ?_
          rintro e w1 ⟨rfl, rfl⟩
          go_wp2_with fail
          refine (CI.out _).mono ?_
          rintro e w1 ⟨rfl, rfl⟩
          go_wp2_with fail
          go_region
          generalize s.extract (k + 1) s.size = t at *
          go_wp2_with fail
          refine (CE.out _).mono ?_
          rintro e w1 ⟨rfl, rfl⟩
          go_wp2_with fail
          refine (CL.out _).mono ?_
          rintro e w1 ⟨rfl, rfl⟩
          go_wp2_with fail
          go_region
          all_goals
            go_wp2_with fail
            refine (CC.out _).mono ?_
            rintro e w1 ⟨rfl, rfl⟩
            go_wp2_with fail
            refine bodyPost_ret (v := .tuple #[.agg #[.string ⟨#[]⟩, .string ⟨#[]⟩, .string ⟨#[]⟩], .bool false]) (by simp [results, Tryz.results119, go_sem]) rfl (SplitPost.mk_none HP.out ?_)
            first | exact (Below.refl _ _).alloc (Nat.le_refl _) _ | exact ((Below.refl _ _).alloc (Nat.le_refl _) _).alloc (by simp) _ | exact (((Below.refl _ _).alloc (Nat.le_refl _) _).alloc (by simp) _).drew | exact ((((Below.refl _ _).alloc (Nat.le_refl _) _).alloc (by simp) _).drew).drew | exact (((((Below.refl _ _).alloc (Nat.le_refl _) _).alloc (by simp) _).drew).drew).drew
        · skip
          have HP : Hid (parse s.data.toList = some ⟨((s.extract 0 k)).data.toList, ((s.extract (k + 1) s.size).extract 0 j).data.toList, ((s.extract (k + 1) s.size).extract (j + 1) (s.extract (k + 1) s.size).size).data.toList⟩) := by
            refine HP0.out.trans ?_
            rw [vr_dash hc2 hj45 hjn, ← LV, ← LR, if_neg (fun h => h.elim zv zr), bl_upto s k]
            try rfl
          rw [show decide ((58 : UInt8) ∈ (s.extract (k + 1) s.size).data.toList) = false from decide_eq_false hc2] at CC
          clear zr zv hr0 hv0 LV LR hj45 hjn HP0 hc2
          go_enter Tryz.func119, Tryz.ntmps119
          go_wp2_with fail
          refine (CM.out _).mono ?_
          rintro e w1 ⟨rfl, rfl⟩
          go_wp2_with fail
          refine (CI.out _).mono ?_
          rintro e w1 ⟨rfl, rfl⟩
          go_wp2_with fail
          go_region
          generalize s.extract (k + 1) s.size = t at *
          go_wp2_with fail
          refine (CE.out _).mono ?_
          rintro e w1 ⟨rfl, rfl⟩
          go_wp2_with fail
          refine (CL.out _).mono ?_
          rintro e w1 ⟨rfl, rfl⟩
          go_wp2_with fail
          go_region
          all_goals
            go_wp2_with fail
            refine (CC.out _).mono ?_
            rintro e w1 ⟨rfl, rfl⟩
            go_wp2_with fail
            refine bodyPost_ret (v := .tuple #[.agg #[.string (s.extract 0 k), .string (t.extract 0 j), .string (t.extract (j + 1) t.size)], .bool true]) (by simp [results, Tryz.results119, go_sem]) rfl (SplitPost.mk_some HP.out ?_)
            first | exact (Below.refl _ _).alloc (Nat.le_refl _) _ | exact ((Below.refl _ _).alloc (Nat.le_refl _) _).alloc (by simp) _ | exact (((Below.refl _ _).alloc (Nat.le_refl _) _).alloc (by simp) _).drew | exact ((((Below.refl _ _).alloc (Nat.le_refl _) _).alloc (by simp) _).drew).drew | exact (((((Below.refl _ _).alloc (Nat.le_refl _) _).alloc (by simp) _).drew).drew).drew
  · skip
    have CL := Lib.hid (fun w => Tryz.strings_LastIndexByte ((s.extract (k + 1) s.size)) 45 (by omega) w)
    rw [show (45 : Int) = ((45 : UInt8).toNat : Int) from rfl, last_no hd] at CL
    change Hid (∀ w, Calls Tryz.prog 179 #[.string ((s.extract (k + 1) s.size)), .int .u8 45] w fun e w' => e = .returned (.int .i64 (-1)) ∧ w' = w) at CL
    have CC := Lib.hid (fun w => Tryz.strings_Contains_one ((s.extract (k + 1) s.size)) 58 w)
    rw [indexB_ge] at CC
    by_cases zv : ((s.extract (k + 1) s.size)).data.toList = []
    · skip
      have HP : Hid (parse s.data.toList = none) := HP0.out.trans (by rw [vr_plain (by rw [zv]; simp) hd, if_pos zv])
      have zva : ((s.extract (k + 1) s.size)).toList.isEmpty = true := by rw [ByteArray.toList_eq, zv]; rfl
      have zvb : ((s.extract (k + 1) s.size)).toList = [] := by rw [ByteArray.toList_eq, zv]
      clear zv hd HP0 CC
      go_enter Tryz.func119, Tryz.ntmps119
      go_wp2_with fail
      refine (CM.out _).mono ?_
      rintro e w1 ⟨rfl, rfl⟩
      go_wp2_with fail
      refine (CI.out _).mono ?_
      rintro e w1 ⟨rfl, rfl⟩
      go_wp2_with fail
      go_region
      generalize s.extract (k + 1) s.size = t at *
      go_wp2_with fail
      refine (CE.out _).mono ?_
      rintro e w1 ⟨rfl, rfl⟩
      go_wp2_with fail
      refine (CL.out _).mono ?_
      rintro e w1 ⟨rfl, rfl⟩
      go_wp2_with fail
      refine bodyPost_ret (v := .tuple #[.agg #[.string ⟨#[]⟩, .string ⟨#[]⟩, .string ⟨#[]⟩], .bool false]) (by simp [results, Tryz.results119, go_sem]) rfl (SplitPost.mk_none HP.out ?_)
      first | exact (Below.refl _ _).alloc (Nat.le_refl _) _ | exact ((Below.refl _ _).alloc (Nat.le_refl _) _).alloc (by simp) _ | exact (((Below.refl _ _).alloc (Nat.le_refl _) _).alloc (by simp) _).drew | exact ((((Below.refl _ _).alloc (Nat.le_refl _) _).alloc (by simp) _).drew).drew | exact (((((Below.refl _ _).alloc (Nat.le_refl _) _).alloc (by simp) _).drew).drew).drew
    · skip
      have hv0 : 0 < ((s.extract (k + 1) s.size)).size := by rw [← size_len]; exact List.length_pos_iff.2 zv
      have zva := toList_cons (s := (s.extract (k + 1) s.size)) (by exact hv0)
      have zvb : ((s.extract (k + 1) s.size)).toList ≠ [] := by intro h; rw [h] at zva; cases zva
      by_cases hc2 : (58 : UInt8) ∈ (s.extract (k + 1) s.size).data.toList
      · skip
        have HP := Lib.hid (HP0.out.trans (vr_colon hc2))
        rw [show decide ((58 : UInt8) ∈ (s.extract (k + 1) s.size).data.toList) = true from decide_eq_true hc2] at CC
        clear zv hv0 hd HP0 hc2
        go_enter Tryz.func119, Tryz.ntmps119
        go_wp2_with fail
        refine (CM.out _).mono ?_
        rintro e w1 ⟨rfl, rfl⟩
        go_wp2_with fail
        refine (CI.out _).mono ?_
        rintro e w1 ⟨rfl, rfl⟩
        go_wp2_with fail
        go_region
        generalize s.extract (k + 1) s.size = t at *
        go_wp2_with fail
        refine (CE.out _).mono ?_
        rintro e w1 ⟨rfl, rfl⟩
        go_wp2_with fail
        refine (CL.out _).mono ?_
        rintro e w1 ⟨rfl, rfl⟩
        go_wp2_with fail
        refine (CC.out _).mono ?_
        rintro e w1 ⟨rfl, rfl⟩
        go_wp2_with fail
        refine bodyPost_ret (v := .tuple #[.agg #[.string ⟨#[]⟩, .string ⟨#[]⟩, .string ⟨#[]⟩], .bool false]) (by simp [results, Tryz.results119, go_sem]) rfl (SplitPost.mk_none HP.out ?_)
        first | exact (Below.refl _ _).alloc (Nat.le_refl _) _ | exact ((Below.refl _ _).alloc (Nat.le_refl _) _).alloc (by simp) _ | exact (((Below.refl _ _).alloc (Nat.le_refl _) _).alloc (by simp) _).drew | exact ((((Below.refl _ _).alloc (Nat.le_refl _) _).alloc (by simp) _).drew).drew | exact (((((Below.refl _ _).alloc (Nat.le_refl _) _).alloc (by simp) _).drew).drew).drew
      · skip
        have HP : Hid (parse s.data.toList = some ⟨((s.extract 0 k)).data.toList, ((s.extract (k + 1) s.size)).data.toList, (⟨#[]⟩ : ByteArray).data.toList⟩) := by
          refine HP0.out.trans ?_
          rw [vr_plain hc2 hd, if_neg zv, bl_upto s k]
          try rfl
        rw [show decide ((58 : UInt8) ∈ (s.extract (k + 1) s.size).data.toList) = false from decide_eq_false hc2] at CC
        clear zv hv0 hd HP0 hc2
        go_enter Tryz.func119, Tryz.ntmps119
        go_wp2_with fail
        refine (CM.out _).mono ?_
        rintro e w1 ⟨rfl, rfl⟩
        go_wp2_with fail
        refine (CI.out _).mono ?_
        rintro e w1 ⟨rfl, rfl⟩
        go_wp2_with fail
        go_region
        generalize s.extract (k + 1) s.size = t at *
        go_wp2_with fail
        refine (CE.out _).mono ?_
        rintro e w1 ⟨rfl, rfl⟩
        go_wp2_with fail
        refine (CL.out _).mono ?_
        rintro e w1 ⟨rfl, rfl⟩
        go_wp2_with fail
        refine (CC.out _).mono ?_
        rintro e w1 ⟨rfl, rfl⟩
        go_wp2_with fail
        refine bodyPost_ret (v := .tuple #[.agg #[.string (s.extract 0 k), .string t, .string ⟨#[]⟩], .bool true]) (by simp [results, Tryz.results119, go_sem]) rfl (SplitPost.mk_some HP.out ?_)
        first | exact (Below.refl _ _).alloc (Nat.le_refl _) _ | exact ((Below.refl _ _).alloc (Nat.le_refl _) _).alloc (by simp) _ | exact (((Below.refl _ _).alloc (Nat.le_refl _) _).alloc (by simp) _).drew | exact ((((Below.refl _ _).alloc (Nat.le_refl _) _).alloc (by simp) _).drew).drew | exact (((((Below.refl _ _).alloc (Nat.le_refl _) _).alloc (by simp) _).drew).drew).drew

theorem split_any (s : ByteArray) (w : World) : Calls Tryz.prog 119 #[.string s] w (SplitPost w (parse s.data.toList)) := by
  by_cases h : s.size ≤ 60
  · cases hm : s.data.toList.all isMay with
    | false => exact split_may s h hm w
    | true =>
      by_cases hc : (58 : UInt8) ∈ s.data.toList
      · by_cases hg : (s.data.toList.takeWhile (· != 58)).length ≠ 0 ∧ (s.data.toList.takeWhile (· != 58)).length ≤ 9 ∧ (s.data.toList.take (s.data.toList.takeWhile (· != 58)).length).all isDg = true
        · exact split_colon s h hm hc w (fun k hk => hk ▸ hg)
        · exact split_epoch s h hm hc w (fun k hk => hk ▸ hg)
      · exact split_plain s h hm hc w
  · exact split_long s (by omega) w
end Go.Proofs.YtdhgiammfpjniaaGreatDoor.Ev
