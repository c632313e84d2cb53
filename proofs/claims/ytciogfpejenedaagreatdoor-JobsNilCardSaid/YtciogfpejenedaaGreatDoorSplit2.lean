/- A version taken apart: split, where its bytes may be. -/
import Derived.Test.YtciogfpejenedaaGreatDoorSplit
namespace Go.Proofs.YtciogfpejenedaaGreatDoor
set_option linter.unusedSimpArgs false
set_option linter.unusedVariables false
open Go.RowKit

set_option maxHeartbeats 2000000 in
set_option maxRecDepth 100000 in
theorem split_may (s : ByteArray) (h : s.size ≤ 60) (hm : s.data.toList.all isMay = false) (w : World) : Calls Tryz.prog 115 #[.string s] w (SplitPost w (parse s.data.toList)) := by
  have HP := Lib.hid (parse_bad (l := s.data.toList) (by rw [hm]; rintro ⟨_, h⟩; cases h))
  have CM := Lib.hid (fun w => run_any mayBe_any (enters_of Tryz.func123 (by kernel_rfl) rfl) s (by unfold maxLen; omega) w)
  have CI := Lib.hid (fun w => Tryz.strings_IndexByte s 58 w)
  have h60 : (s.size : Int) ≤ 60 := by omega
  have h0 : (0 : Int) ≤ (s.size : Int) := by omega
  have hlt := not_all_while hm
  rw [size_len] at hlt
  generalize (s.data.toList.takeWhile isMay).length = n at *
  clear hm
  go_enter Tryz.func115, Tryz.ntmps115
  go_wp2_with fail
  refine (CM.out _).mono ?_
  rintro e w1 ⟨rfl, rfl⟩
  go_wp2_with fail
  refine bodyPost_ret (v := .tuple #[.agg #[.string ⟨#[]⟩, .string ⟨#[]⟩, .string ⟨#[]⟩], .bool false]) (by simp [results, Tryz.results115, go_sem]) rfl (SplitPost.mk_none HP.out ?_)
  first | exact (Below.refl _ _).alloc (Nat.le_refl _) _ | exact ((Below.refl _ _).alloc (Nat.le_refl _) _).alloc (by simp) _ | exact (((Below.refl _ _).alloc (Nat.le_refl _) _).alloc (by simp) _).drew | exact ((((Below.refl _ _).alloc (Nat.le_refl _) _).alloc (by simp) _).drew).drew

set_option maxHeartbeats 8000000 in
set_option maxRecDepth 100000 in
theorem split_plain (s : ByteArray) (h : s.size ≤ 60) (hm : s.data.toList.all isMay = true) (hc : (58 : UInt8) ∉ s.data.toList) (w : World) : Calls Tryz.prog 115 #[.string s] w (SplitPost w (parse s.data.toList)) := by
  have CM := Lib.hid (fun w => run_any mayBe_any (enters_of Tryz.func123 (by kernel_rfl) rfl) s (by unfold maxLen; omega) w)
  have CI := Lib.hid (fun w => Tryz.strings_IndexByte s 58 w)
  have h60 : (s.size : Int) ≤ 60 := by omega
  have h0 : (0 : Int) ≤ (s.size : Int) := by omega
  have HG := Lib.hid (show s.data.toList.length ≤ 60 ∧ s.data.toList.all isMay = true from ⟨by rw [size_len]; exact h, hm⟩)
  have hall := all_while hm
  rw [size_len] at hall
  have HP0 := Lib.hid (parse_plain HG.out hc)
  change Hid (∀ w, Calls Tryz.prog 124 #[.string s, .int .u8 58] w fun e w' => e = .returned (.int .i64 (Lib.indexByte s.data.toList 58)) ∧ w' = w) at CI
  rw [index_no hc] at CI
  rw [hall] at CM
  clear hm hall
  by_cases hd : (45 : UInt8) ∈ s.data.toList
  · skip
    obtain ⟨j, hj, ej, hj45, hjn⟩ := last_yes (s := s) hd
    have CL := Lib.hid (fun w => Tryz.strings_LastIndexByte (s) 45 (by omega) w)
    rw [show (45 : Int) = ((45 : UInt8).toNat : Int) from rfl, ej] at CL
    change Hid (∀ w, Calls Tryz.prog 126 #[.string (s), .int .u8 45] w fun e w' => e = .returned (.int .i64 (j : Int)) ∧ w' = w) at CL
    have CC := Lib.hid (fun w => Tryz.strings_Contains_one (s) 58 w)
    rw [indexB_ge] at CC
    have LV : (s.extract 0 j).data.toList = s.data.toList.take j := bl_upto _ _
    have LR : (s.extract (j + 1) s.size).data.toList = s.data.toList.drop (j + 1) := bl_from _ _
    have j0 : (0 : Int) ≤ (j : Int) := by omega
    have j1 : (j : Int) + 1 ≤ (s.size : Int) := by omega
    have j2 : (j : Int) ≤ (s.size : Int) := by omega
    have j3 : (s.size : Int) ≤ 60 := by omega
    clear hd ej hj
    by_cases zr : (s.extract (j + 1) s.size).data.toList = []
    · skip
      have HP := Lib.hid (HP0.out.trans (vr_empty hj45 hjn (.inr (LR ▸ zr))))
      have zra : (s.extract (j + 1) s.size).toList.isEmpty = true := by rw [ByteArray.toList_eq, zr]; rfl
      have zrb : (s.extract (j + 1) s.size).toList = [] := by rw [ByteArray.toList_eq, zr]
      clear zr LV LR hj45 hjn HP0 CC
      go_enter Tryz.func115, Tryz.ntmps115
      go_wp2_with fail
      refine (CM.out _).mono ?_
      rintro e w1 ⟨rfl, rfl⟩
      go_wp2_with fail
      refine (CI.out _).mono ?_
      rintro e w1 ⟨rfl, rfl⟩
      go_wp2_with fail
      refine (CL.out _).mono ?_
      rintro e w1 ⟨rfl, rfl⟩
      go_wp2_with fail
      go_region
      all_goals go_wp2_with fail
      all_goals
        refine bodyPost_ret (v := .tuple #[.agg #[.string ⟨#[]⟩, .string ⟨#[]⟩, .string ⟨#[]⟩], .bool false]) (by simp [results, Tryz.results115, go_sem]) rfl (SplitPost.mk_none HP.out ?_)
        first | exact (Below.refl _ _).alloc (Nat.le_refl _) _ | exact ((Below.refl _ _).alloc (Nat.le_refl _) _).alloc (by simp) _ | exact (((Below.refl _ _).alloc (Nat.le_refl _) _).alloc (by simp) _).drew | exact ((((Below.refl _ _).alloc (Nat.le_refl _) _).alloc (by simp) _).drew).drew
    · skip
      have hr0 : 0 < (s.extract (j + 1) s.size).size := by rw [← size_len]; exact List.length_pos_iff.2 zr
      have zra := toList_cons (s := s.extract (j + 1) s.size) (by exact hr0)
      have zrb : (s.extract (j + 1) s.size).toList ≠ [] := by intro h; rw [h] at zra; cases zra
      by_cases zv : (s.extract 0 j).data.toList = []
      · skip
        have HP := Lib.hid (HP0.out.trans (vr_empty hj45 hjn (.inl (LV ▸ zv))))
        have zva : (s.extract 0 j).toList.isEmpty = true := by rw [ByteArray.toList_eq, zv]; rfl
        have zvb : (s.extract 0 j).toList = [] := by rw [ByteArray.toList_eq, zv]
        clear zr zv hr0 LV LR hj45 hjn HP0 CC
        go_enter Tryz.func115, Tryz.ntmps115
        go_wp2_with fail
        refine (CM.out _).mono ?_
        rintro e w1 ⟨rfl, rfl⟩
        go_wp2_with fail
        refine (CI.out _).mono ?_
        rintro e w1 ⟨rfl, rfl⟩
        go_wp2_with fail
        refine (CL.out _).mono ?_
        rintro e w1 ⟨rfl, rfl⟩
        go_wp2_with fail
        go_region
        all_goals go_wp2_with fail
        all_goals
          refine bodyPost_ret (v := .tuple #[.agg #[.string ⟨#[]⟩, .string ⟨#[]⟩, .string ⟨#[]⟩], .bool false]) (by simp [results, Tryz.results115, go_sem]) rfl (SplitPost.mk_none HP.out ?_)
          first | exact (Below.refl _ _).alloc (Nat.le_refl _) _ | exact ((Below.refl _ _).alloc (Nat.le_refl _) _).alloc (by simp) _ | exact (((Below.refl _ _).alloc (Nat.le_refl _) _).alloc (by simp) _).drew | exact ((((Below.refl _ _).alloc (Nat.le_refl _) _).alloc (by simp) _).drew).drew
      · skip
        have hv0 : 0 < (s.extract 0 j).size := by rw [← size_len]; exact List.length_pos_iff.2 zv
        have zva := toList_cons (s := s.extract 0 j) (by exact hv0)
        have zvb : (s.extract 0 j).toList ≠ [] := by intro h; rw [h] at zva; cases zva
        have hc2 := hc
        have HP : Hid (parse s.data.toList = some ⟨((⟨#[]⟩ : ByteArray)).data.toList, (s.extract 0 j).data.toList, (s.extract (j + 1) s.size).data.toList⟩) := by
          refine HP0.out.trans ?_
          rw [vr_dash hc2 hj45 hjn, ← LV, ← LR, if_neg (fun h => h.elim zv zr)]
          try rfl
        rw [show decide ((58 : UInt8) ∈ s.data.toList) = false from decide_eq_false hc2] at CC
        clear zr zv hr0 hv0 LV LR hj45 hjn HP0 hc2
        go_enter Tryz.func115, Tryz.ntmps115
        go_wp2_with fail
        refine (CM.out _).mono ?_
        rintro e w1 ⟨rfl, rfl⟩
        go_wp2_with fail
        refine (CI.out _).mono ?_
        rintro e w1 ⟨rfl, rfl⟩
        go_wp2_with fail
        refine (CL.out _).mono ?_
        rintro e w1 ⟨rfl, rfl⟩
        go_wp2_with fail
        go_region
        all_goals
          go_wp2_with fail
          refine (CC.out _).mono ?_
          rintro e w1 ⟨rfl, rfl⟩
          go_wp2_with fail
          refine bodyPost_ret (v := .tuple #[.agg #[.string (⟨#[]⟩ : ByteArray), .string (s.extract 0 j), .string (s.extract (j + 1) s.size)], .bool true]) (by simp [results, Tryz.results115, go_sem]) rfl (SplitPost.mk_some HP.out ?_)
          first | exact (Below.refl _ _).alloc (Nat.le_refl _) _ | exact ((Below.refl _ _).alloc (Nat.le_refl _) _).alloc (by simp) _ | exact (((Below.refl _ _).alloc (Nat.le_refl _) _).alloc (by simp) _).drew | exact ((((Below.refl _ _).alloc (Nat.le_refl _) _).alloc (by simp) _).drew).drew
  · skip
    have CL := Lib.hid (fun w => Tryz.strings_LastIndexByte (s) 45 (by omega) w)
    rw [show (45 : Int) = ((45 : UInt8).toNat : Int) from rfl, last_no hd] at CL
    change Hid (∀ w, Calls Tryz.prog 126 #[.string (s), .int .u8 45] w fun e w' => e = .returned (.int .i64 (-1)) ∧ w' = w) at CL
    have CC := Lib.hid (fun w => Tryz.strings_Contains_one (s) 58 w)
    rw [indexB_ge] at CC
    by_cases zv : (s).data.toList = []
    · skip
      have HP : Hid (parse s.data.toList = none) := HP0.out.trans (by rw [vr_plain (by rw [zv]; simp) hd, if_pos zv])
      have zva : (s).toList.isEmpty = true := by rw [ByteArray.toList_eq, zv]; rfl
      have zvb : (s).toList = [] := by rw [ByteArray.toList_eq, zv]
      clear zv hd HP0 CC
      go_enter Tryz.func115, Tryz.ntmps115
      go_wp2_with fail
      refine (CM.out _).mono ?_
      rintro e w1 ⟨rfl, rfl⟩
      go_wp2_with fail
      refine (CI.out _).mono ?_
      rintro e w1 ⟨rfl, rfl⟩
      go_wp2_with fail
      refine (CL.out _).mono ?_
      rintro e w1 ⟨rfl, rfl⟩
      go_wp2_with fail
      refine bodyPost_ret (v := .tuple #[.agg #[.string ⟨#[]⟩, .string ⟨#[]⟩, .string ⟨#[]⟩], .bool false]) (by simp [results, Tryz.results115, go_sem]) rfl (SplitPost.mk_none HP.out ?_)
      first | exact (Below.refl _ _).alloc (Nat.le_refl _) _ | exact ((Below.refl _ _).alloc (Nat.le_refl _) _).alloc (by simp) _ | exact (((Below.refl _ _).alloc (Nat.le_refl _) _).alloc (by simp) _).drew | exact ((((Below.refl _ _).alloc (Nat.le_refl _) _).alloc (by simp) _).drew).drew
    · skip
      have hv0 : 0 < (s).size := by rw [← size_len]; exact List.length_pos_iff.2 zv
      have zva := toList_cons (s := s) (by exact hv0)
      have zvb : (s).toList ≠ [] := by intro h; rw [h] at zva; cases zva
      have hc2 := hc
      have HP : Hid (parse s.data.toList = some ⟨((⟨#[]⟩ : ByteArray)).data.toList, (s).data.toList, (⟨#[]⟩ : ByteArray).data.toList⟩) := by
        refine HP0.out.trans ?_
        rw [vr_plain hc2 hd, if_neg zv]
        try rfl
      rw [show decide ((58 : UInt8) ∈ s.data.toList) = false from decide_eq_false hc2] at CC
      clear zv hv0 hd HP0 hc2
      go_enter Tryz.func115, Tryz.ntmps115
      go_wp2_with fail
      refine (CM.out _).mono ?_
      rintro e w1 ⟨rfl, rfl⟩
      go_wp2_with fail
      refine (CI.out _).mono ?_
      rintro e w1 ⟨rfl, rfl⟩
      go_wp2_with fail
      refine (CL.out _).mono ?_
      rintro e w1 ⟨rfl, rfl⟩
      go_wp2_with fail
      refine (CC.out _).mono ?_
      rintro e w1 ⟨rfl, rfl⟩
      go_wp2_with fail
      refine bodyPost_ret (v := .tuple #[.agg #[.string (⟨#[]⟩ : ByteArray), .string (s), .string ⟨#[]⟩], .bool true]) (by simp [results, Tryz.results115, go_sem]) rfl (SplitPost.mk_some HP.out ?_)
      first | exact (Below.refl _ _).alloc (Nat.le_refl _) _ | exact ((Below.refl _ _).alloc (Nat.le_refl _) _).alloc (by simp) _ | exact (((Below.refl _ _).alloc (Nat.le_refl _) _).alloc (by simp) _).drew | exact ((((Below.refl _ _).alloc (Nat.le_refl _) _).alloc (by simp) _).drew).drew
set_option maxHeartbeats 8000000 in
set_option maxRecDepth 100000 in
theorem split_epoch (s : ByteArray) (h : s.size ≤ 60) (hm : s.data.toList.all isMay = true) (hc : (58 : UInt8) ∈ s.data.toList) (w : World) (hbad : ∀ k, k = (s.data.toList.takeWhile (· != 58)).length → ¬ (k ≠ 0 ∧ k ≤ 9 ∧ (s.data.toList.take k).all isDg = true)) : Calls Tryz.prog 115 #[.string s] w (SplitPost w (parse s.data.toList)) := by
  have CM := Lib.hid (fun w => run_any mayBe_any (enters_of Tryz.func123 (by kernel_rfl) rfl) s (by unfold maxLen; omega) w)
  have CI := Lib.hid (fun w => Tryz.strings_IndexByte s 58 w)
  have h60 : (s.size : Int) ≤ 60 := by omega
  have h0 : (0 : Int) ≤ (s.size : Int) := by omega
  have HG := Lib.hid (show s.data.toList.length ≤ 60 ∧ s.data.toList.all isMay = true from ⟨by rw [size_len]; exact h, hm⟩)
  have hall := all_while hm
  rw [size_len] at hall
  have HCI := Lib.hid (index_yes hc)
  change Hid (∀ w, Calls Tryz.prog 124 #[.string s, .int .u8 58] w fun e w' => e = .returned (.int .i64 (Lib.indexByte s.data.toList 58)) ∧ w' = w) at CI
  rw [index_yes hc] at CI
  have HPC := Lib.hid (fun k hk => parse_colon HG.out hc (k := k) hk)
  have klt := while_lt hc
  rw [size_len] at klt
  rw [hall] at CM
  clear hm hall HCI
  obtain ⟨k, hk⟩ : ∃ k, k = (s.data.toList.takeWhile (· != 58)).length := ⟨_, rfl⟩
  have HP1 := Lib.hid (HPC.out k hk)
  have hbad := hbad k hk
  rw [← hk] at CI klt
  clear hk HPC hc
  have k0 : (0 : Int) ≤ (k : Int) := by omega
  have k1 : (k : Int) + 1 ≤ (s.size : Int) := by omega
  have k2 : (k : Int) ≤ (s.size : Int) := by omega
  have HP := Lib.hid (HP1.out.trans (if_neg hbad))
  by_cases kz : k = 0
  · subst kz
    clear hbad HP1
    go_enter Tryz.func115, Tryz.ntmps115
    go_wp2_with fail
    refine (CM.out _).mono ?_
    rintro e w1 ⟨rfl, rfl⟩
    go_wp2_with fail
    refine (CI.out _).mono ?_
    rintro e w1 ⟨rfl, rfl⟩
    go_wp2_with fail
    go_region
    all_goals go_wp2_with fail
    all_goals
      refine bodyPost_ret (v := .tuple #[.agg #[.string ⟨#[]⟩, .string ⟨#[]⟩, .string ⟨#[]⟩], .bool false]) (by simp [results, Tryz.results115, go_sem]) rfl (SplitPost.mk_none HP.out ?_)
      first | exact (Below.refl _ _).alloc (Nat.le_refl _) _ | exact ((Below.refl _ _).alloc (Nat.le_refl _) _).alloc (by simp) _ | exact (((Below.refl _ _).alloc (Nat.le_refl _) _).alloc (by simp) _).drew | exact ((((Below.refl _ _).alloc (Nat.le_refl _) _).alloc (by simp) _).drew).drew
  · by_cases k9 : 9 < k
    · have k3 : (9 : Int) < (k : Int) := by omega
      have k4 : ((k : Int) == 0) = false := by simp; omega
      clear hbad HP1 kz k9
      go_enter Tryz.func115, Tryz.ntmps115
      go_wp2_with fail
      refine (CM.out _).mono ?_
      rintro e w1 ⟨rfl, rfl⟩
      go_wp2_with fail
      refine (CI.out _).mono ?_
      rintro e w1 ⟨rfl, rfl⟩
      go_wp2_with fail
      go_region
      all_goals go_wp2_with fail
      all_goals
        refine bodyPost_ret (v := .tuple #[.agg #[.string ⟨#[]⟩, .string ⟨#[]⟩, .string ⟨#[]⟩], .bool false]) (by simp [results, Tryz.results115, go_sem]) rfl (SplitPost.mk_none HP.out ?_)
        first | exact (Below.refl _ _).alloc (Nat.le_refl _) _ | exact ((Below.refl _ _).alloc (Nat.le_refl _) _).alloc (by simp) _ | exact (((Below.refl _ _).alloc (Nat.le_refl _) _).alloc (by simp) _).drew | exact ((((Below.refl _ _).alloc (Nat.le_refl _) _).alloc (by simp) _).drew).drew
    · have hd : (s.data.toList.take k).all isDg = false := by
        cases hx : (s.data.toList.take k).all isDg with
        | false => rfl
        | true => exact absurd ⟨kz, by omega, hx⟩ hbad
      have hlt := not_all_while hd
      rw [← bl_upto, size_len] at hlt
      have hsz : (s.extract 0 k).size = k := by rw [← size_len, bl_upto, List.length_take, size_len]; omega
      rw [hsz] at hlt
      have CE := Lib.hid (fun w => run_any isDigit_any (enters_of Tryz.func125 (by kernel_rfl) rfl) (s.extract 0 k) (by rw [hsz]; unfold maxLen; omega) w)
      generalize ((s.extract 0 k).data.toList.takeWhile isDg).length = m at *
      have k3 : (k : Int) ≤ 9 := by omega
      have k4 : ((k : Int) == 0) = false := by simp; omega
      have k5 : (m : Int) < (k : Int) := by omega
      have k6 : ¬ (9 : Int) < (k : Int) := by omega
      clear hbad HP1 kz k9 hd hlt hsz
      go_enter Tryz.func115, Tryz.ntmps115
      go_wp2_with fail
      refine (CM.out _).mono ?_
      rintro e w1 ⟨rfl, rfl⟩
      go_wp2_with fail
      refine (CI.out _).mono ?_
      rintro e w1 ⟨rfl, rfl⟩
      go_wp2_with fail
      go_region
      all_goals go_wp2_with fail
      all_goals
        refine (CE.out _).mono ?_
        rintro e w1 ⟨rfl, rfl⟩
        go_wp2_with fail
        refine bodyPost_ret (v := .tuple #[.agg #[.string ⟨#[]⟩, .string ⟨#[]⟩, .string ⟨#[]⟩], .bool false]) (by simp [results, Tryz.results115, go_sem]) rfl (SplitPost.mk_none HP.out ?_)
        first | exact (Below.refl _ _).alloc (Nat.le_refl _) _ | exact ((Below.refl _ _).alloc (Nat.le_refl _) _).alloc (by simp) _ | exact (((Below.refl _ _).alloc (Nat.le_refl _) _).alloc (by simp) _).drew | exact ((((Below.refl _ _).alloc (Nat.le_refl _) _).alloc (by simp) _).drew).drew
end Go.Proofs.YtciogfpejenedaaGreatDoor
