/- XmlpullSteps: its law. -/
import Derived.Test.YtchkjknpmpbfhaaDoorXstB
import Derived.Test.YtchkjknpmpbfhaaDoorPhase2
import Derived.Test.YtchkjknpmpbfhaaDoorPhase4
import Derived.StillTailTactics
namespace Go.Proofs.YtchkjknpmpbfhaaDoor
set_option linter.unusedSimpArgs false
set_option linter.unusedVariables false
open Go.RowKit

theorem wrap_id (n : Int) (h0 : -9223372036854775808 ≤ n) (h1 : n ≤ 9223372036854775807) : IntKind.i64.wrap n = n := by
  simp only [IntKind.wrap, IntKind.bits, IntKind.signed]
  simp
  split <;> omega
set_option maxHeartbeats 2000000 in
set_option maxRecDepth 1000000 in
theorem steps_long (l : Bs) (hl : 40000 < l.length) (n : Int) (W : World) {B : Nat} (hE : XEnv B W) : Calls Tryd.prog 4 #[.string (mkS l), .int .i64 n] W fun e w' => e = .returned (.bool true) ∧ Below W.heap.size W w' := by
  have CA := Lib.hid (awake_any W hE)
  have C1 := Lib.hid (fun w' (hb : Below W.heap.size W w') => all_any l (hE.below hb))
  have C2 := Lib.hid (fun w' => new_long l hl w')
  have hz : (40000 : Int) < ((mkS l).size : Int) := by rw [mkS_size]; omega
  have hX : allX l = ([], 104) := by unfold allX; rw [if_pos hl]
  unfold AllPost at C1
  rw [hX] at C1
  simp only [List.length_nil] at C1
  clear hE hX hl
  generalize mkS l = S at *
  go_enter Tryd.func4, Tryd.ntmps4
  go_wp2_with fail
  refine CA.out.mono ?_
  rintro e w1 ⟨rfl, hb1⟩
  have HB1 := Lib.hid hb1
  have C1' := Lib.hid (C1.out w1 hb1)
  clear hb1 CA C1
  go_wp2_with fail
  refine C1'.out.mono ?_
  rintro e w2 ⟨v, cs, rfl, hown, -, hb2⟩
  obtain ⟨A, c, rfl, hnc, hcm⟩ := own_form' hown
  have HB2 := Lib.hid (HB1.out.trans (hb2.mono HB1.out.size))
  clear hown hb2 hnc hcm HB1 C1'
  go_wp2_with fail
  refine (C2.out _).mono ?_
  rintro e w3 ⟨rfl, rfl⟩
  clear C2
  go_wp2_with fail
  go_ret
  exact ⟨rfl, HB2.out⟩
set_option maxHeartbeats 8000000 in
set_option maxRecDepth 1000000 in
theorem steps_short (l : Bs) (hl : ¬ 40000 < l.length) (n : Int) (hn0 : -9223372036854775808 ≤ n) (hn1 : n ≤ 9223372036854775807) (W : World) {B : Nat} (hE : XEnv B W) : Calls Tryd.prog 4 #[.string (mkS l), .int .i64 n] W fun e w' => e = .returned (.bool true) ∧ Below W.heap.size W w' := by
  have CA := Lib.hid (awake_any W hE)
  have C1 := Lib.hid (fun w' (hb : Below W.heap.size W w') => all_any l (hE.below hb))
  have C2 := Lib.hid (fun w' => new_short l (by omega) w')
  have hz : ¬ (40000 : Int) < ((mkS l).size : Int) := by rw [mkS_size]; omega
  have HX : Hid (allX l = allN (muX (s0X l) + 1) (s0X l)) := by show allX l = _; unfold allX; rw [if_neg hl]
  have HOk : Hid (XOk (s0X l)) := ⟨by show l.length ≤ 40000; omega, Nat.zero_le _, fun h => by cases h⟩
  have HE := Lib.hid hE
  unfold AllPost at C1
  clear hE hl
  generalize s0X l = s0 at *
  generalize allX l = ax at *
  obtain ⟨ps, e0⟩ := ax
  generalize mkS l = S at *
  simp only at C1
  go_enter Tryd.func4, Tryd.ntmps4
  go_wp2_with fail
  refine CA.out.mono ?_
  rintro e w1 ⟨rfl, hb1⟩
  have HB1 := Lib.hid hb1
  have C1' := Lib.hid (C1.out w1 hb1)
  clear hb1 CA C1
  go_wp2_with fail
  refine C1'.out.mono ?_
  rintro e w2 ⟨v, cs, rfl, hown, hpc, hb2⟩
  obtain ⟨Av, cv, rfl, hnc, hcm⟩ := own_form' hown
  have HB2 := Lib.hid (HB1.out.trans (hb2.mono HB1.out.size))
  have HP2 := Lib.hid (pcsR_of hown hpc)
  have HE2 := Lib.hid (HE.out.below HB2.out)
  unfold maxLen at hcm
  clear hown hpc hb2 HB1 C1' HE
  go_wp2_with fail
  refine (C2.out _).mono ?_
  rintro e w3 ⟨g, rfl, hx, hb3⟩
  have HR : Hid (Rn w2 B g ps e0 0 w3) := ⟨_, s0, _, hx, hb3, HE2.out.below hb3, HOk.out, Nat.lt_succ_self _, HX.out.symm⟩
  have HBs : Hid (B ≤ w2.heap.size) := HE2.out.size
  obtain ⟨N, hN⟩ : ∃ N, N = ps.length := ⟨_, rfl⟩
  have HN := Lib.hid hN
  rw [← hN] at hnc ⊢
  clear hx hb3 C2 HE2 hN HX HOk
  go_wp2_with fail
  go_loopg [10, 11, 12, 13] N (fun gk v10 v11 v12 v13 wx => ∃ i : Nat, i + gk = N ∧ v10 = .int .i64 (i : Int) ∧ Hid (Rn w2 B g ps e0 i wx))
  case atStart => exact ⟨0, by omega, rfl, HR⟩
  case round =>
    obtain ⟨i, hig, rfl, HRi⟩ := hrel
    by_cases hlt : i < N
    · have hlt' : (i : Int) < (N : Int) := by omega
      obtain ⟨p, hp⟩ : ∃ p, ps[i]? = some p := ⟨_, List.getElem?_eq_getElem (by rw [← HN.out]; exact hlt)⟩
      obtain ⟨b, o, A', c', hAv, -⟩ := HP2.out i p hp
      subst hAv
      have CN := Lib.hid (next_rn HBs.out HRi.out hp)
      have HPi := Lib.hid (pcs_cut HP2.out hp)
      clear hp
      go_wp2_with fail
      refine CN.out.mono ?_
      rintro e w4 ⟨A, c, rfl, hlc, hcm4, hA4, hr4⟩
      clear CN
      obtain ⟨w5, hw5⟩ : ∃ w5, w5 = w4.alloc (.cells #[.int .i64 p.kind, .string (mkS p.name), .slice A p.attrs.length c, .string (mkS p.text)] 32) := ⟨_, rfl⟩
      have K5 : Hid (Blk w5 w4.heap.size 32 #[.int .i64 p.kind, .string (mkS p.name), .slice A p.attrs.length c, .string (mkS p.text)]) := by rw [hw5]; exact Blk.new _ _ _
      have HB5 : Below w4.heap.size w4 w5 := by rw [hw5]; exact (Below.refl _ _).alloc (Nat.le_refl _) _
      obtain ⟨w6, hw6⟩ : ∃ w6, w6 = (w5.alloc (.cells #[.int .i64 p.kind, .string (mkS p.name), .slice A p.attrs.length c, .string (mkS p.text)] 32)).drew := ⟨_, rfl⟩
      have K6 : Hid (Blk w6 w4.heap.size 32 #[.int .i64 p.kind, .string (mkS p.name), .slice A p.attrs.length c, .string (mkS p.text)]) := by rw [hw6]; exact (K5.out.alloc _).drew
      have K6n : Blk w6 w5.heap.size 32 #[.int .i64 p.kind, .string (mkS p.name), .slice A p.attrs.length c, .string (mkS p.text)] := by rw [hw6]; exact (Blk.new _ _ _).drew
      have HB6 : Below w5.heap.size w5 w6 := by rw [hw6]; exact below_drewN' (n := 1) ((Below.refl _ _).alloc (Nat.le_refl _) _)
      have hb46 : Below w4.heap.size w4 w6 := HB5.trans (HB6.mono HB5.size)
      have hR6 : Rn w2 B g ps e0 (i + 1) w6 := hr4.below hb46
      have hP6 : PcsR w6 (some ⟨b, o + i * 4, none⟩) [p] := HPi.out.below hR6.bel
      have CS : Hid (Calls Tryd.prog 11 #[.slice (some ⟨w5.heap.size, 0, none⟩) 1 1, .slice (some ⟨b, o + i * 4, none⟩) 1 (cv - i)] w6 fun e' w7 => e' = .returned (.bool true) ∧ Hid (Rn w2 B g ps e0 (i + 1) w7) ∧ Blk w7 w4.heap.size 32 #[.int .i64 p.kind, .string (mkS p.name), .slice A p.attrs.length c, .string (mkS p.text)]) := by
        refine (same_pcs w6 (some ⟨w5.heap.size, 0, none⟩) (some ⟨b, o + i * 4, none⟩) [p] [p] 1 (cv - i) (pcs_one K6n hlc hcm4 (hA4.below hb46)) hP6 (by simp) (by simp; omega) (by unfold maxLen; omega) (by unfold maxLen; omega)).mono ?_
        rintro e' w7 ⟨⟨r, rfl, hr⟩, hb7⟩
        exact ⟨by rw [hr.2 rfl], hR6.below hb7, K6.out.below hb7 K6.out.lt⟩
      clear HB5 HB6 hb46 hR6 hP6 K6n hr4 hA4 hlc HPi HRi
      unfold maxLen at hcm4
      unfold pcV
      go_upto_region 12 with fail
      rw [← hw5]
      clear hw5
      have l0 : w5.cell? ⟨w4.heap.size, 0, none⟩ = some (.int .i64 p.kind) := K5.out.cell 0
      have l1 : w5.cell? ⟨w4.heap.size, 1, none⟩ = some (.string (mkS p.name)) := K5.out.cell 1
      have l2 : w5.cell? ⟨w4.heap.size, 2, none⟩ = some (.slice A p.attrs.length c) := K5.out.cell 2
      have l3 : w5.cell? ⟨w4.heap.size, 3, none⟩ = some (.string (mkS p.text)) := K5.out.cell 3
      refine wp_region_S (fun _ w' => w'.cell? ⟨w4.heap.size, 0, none⟩ = some (.int .i64 p.kind) ∧ w'.cell? ⟨w4.heap.size, 1, none⟩ = some (.string (mkS p.name)) ∧ w'.cell? ⟨w4.heap.size, 2, none⟩ = some (.slice A p.attrs.length c) ∧ w'.cell? ⟨w4.heap.size, 3, none⟩ = some (.string (mkS p.text))) (by kernel_rfl) ⟨l0, l1, l2, l3⟩ (fun hS => ?_)
      refine wpAnyS_take (i := 0) (fun w' => w'.cell? ⟨w4.heap.size, 0, none⟩ = some (.int .i64 p.kind) ∧ w'.cell? ⟨w4.heap.size, 1, none⟩ = some (.string (mkS p.name)) ∧ w'.cell? ⟨w4.heap.size, 2, none⟩ = some (.slice A p.attrs.length c) ∧ w'.cell? ⟨w4.heap.size, 3, none⟩ = some (.string (mkS p.text))) (v := .agg #[.int .i64 p.kind, .string (mkS p.name), .slice A p.attrs.length c, .string (mkS p.text)]) rfl (by kernel_rfl) (by kernel_rfl) (by kernel_rfl) (fun _ _ _ h => h) (fun l w hw hS => hS) (fun _ _ => Iff.rfl) (by kernel_rfl) hS (fun w' hSw => ?_) (by kernel_rfl) (fun hS => ?_)
      · obtain ⟨s1, s2, s3, s4⟩ := hSw
        go_simp
      try simp only [List.getElem_toArray, List.getElem_cons_zero, List.getElem_cons_succ, Act.put, List.setIfInBounds_toArray, List.set_cons_zero, List.set_cons_succ]
      refine wpAnyS_take (i := 2) (fun w' => w'.cell? ⟨w4.heap.size, 0, none⟩ = some (.int .i64 p.kind) ∧ w'.cell? ⟨w4.heap.size, 1, none⟩ = some (.string (mkS p.name)) ∧ w'.cell? ⟨w4.heap.size, 2, none⟩ = some (.slice A p.attrs.length c) ∧ w'.cell? ⟨w4.heap.size, 3, none⟩ = some (.string (mkS p.text))) (v := .slice (some ⟨b, o, none⟩) N cv) rfl (by kernel_rfl) (by kernel_rfl) (by kernel_rfl) (fun _ _ _ h => h) (fun l w hw hS => hS) (fun _ _ => Iff.rfl) (by kernel_rfl) hS (fun w' hSw => ?_) (by kernel_rfl) (fun hS => ?_)
      · obtain ⟨s1, s2, s3, s4⟩ := hSw
        go_simp
      try simp only [List.getElem_toArray, List.getElem_cons_zero, List.getElem_cons_succ, Act.put, List.setIfInBounds_toArray, List.set_cons_zero, List.set_cons_succ]
      refine wpAnyS_take (i := 3) (fun w' => w'.cell? ⟨w4.heap.size, 0, none⟩ = some (.int .i64 p.kind) ∧ w'.cell? ⟨w4.heap.size, 1, none⟩ = some (.string (mkS p.name)) ∧ w'.cell? ⟨w4.heap.size, 2, none⟩ = some (.slice A p.attrs.length c) ∧ w'.cell? ⟨w4.heap.size, 3, none⟩ = some (.string (mkS p.text))) (v := .int .i64 (i : Int)) rfl (by kernel_rfl) (by kernel_rfl) (by kernel_rfl) (fun _ _ _ h => h) (fun l w hw hS => hS) (fun _ _ => Iff.rfl) (by kernel_rfl) hS (fun w' hSw => ?_) (by kernel_rfl) (fun hS => ?_)
      · obtain ⟨s1, s2, s3, s4⟩ := hSw
        go_simp
      try simp only [List.getElem_toArray, List.getElem_cons_zero, List.getElem_cons_succ, Act.put, List.setIfInBounds_toArray, List.set_cons_zero, List.set_cons_succ]
      refine wpAnyS_take (i := 4) (fun w' => w'.cell? ⟨w4.heap.size, 0, none⟩ = some (.int .i64 p.kind) ∧ w'.cell? ⟨w4.heap.size, 1, none⟩ = some (.string (mkS p.name)) ∧ w'.cell? ⟨w4.heap.size, 2, none⟩ = some (.slice A p.attrs.length c) ∧ w'.cell? ⟨w4.heap.size, 3, none⟩ = some (.string (mkS p.text))) (v := .int .i64 (i : Int)) rfl (by kernel_rfl) (by kernel_rfl) (by kernel_rfl) (fun _ _ _ h => h) (fun l w hw hS => hS) (fun _ _ => Iff.rfl) (by kernel_rfl) hS (fun w' hSw => ?_) (by kernel_rfl) (fun hS => ?_)
      · obtain ⟨s1, s2, s3, s4⟩ := hSw
        go_simp
      try simp only [List.getElem_toArray, List.getElem_cons_zero, List.getElem_cons_succ, Act.put, List.setIfInBounds_toArray, List.set_cons_zero, List.set_cons_succ]
      refine wpAnyS_take (i := 5) (fun w' => w'.cell? ⟨w4.heap.size, 0, none⟩ = some (.int .i64 p.kind) ∧ w'.cell? ⟨w4.heap.size, 1, none⟩ = some (.string (mkS p.name)) ∧ w'.cell? ⟨w4.heap.size, 2, none⟩ = some (.slice A p.attrs.length c) ∧ w'.cell? ⟨w4.heap.size, 3, none⟩ = some (.string (mkS p.text))) (v := .int .i64 ((i : Int) + 1)) rfl (by kernel_rfl) (by kernel_rfl) (by kernel_rfl) (fun _ _ _ h => h) (fun l w hw hS => hS) (fun _ _ => Iff.rfl) (by kernel_rfl) hS (fun w' hSw => ?_) (by kernel_rfl) (fun hS => ?_)
      · obtain ⟨s1, s2, s3, s4⟩ := hSw
        go_simp
        exact wrap_small _ (by omega) (by omega)
      try simp only [List.getElem_toArray, List.getElem_cons_zero, List.getElem_cons_succ, Act.put, List.setIfInBounds_toArray, List.set_cons_zero, List.set_cons_succ]
      refine wpAnyS_take (i := 6) (fun w' => w'.cell? ⟨w4.heap.size, 0, none⟩ = some (.int .i64 p.kind) ∧ w'.cell? ⟨w4.heap.size, 1, none⟩ = some (.string (mkS p.name)) ∧ w'.cell? ⟨w4.heap.size, 2, none⟩ = some (.slice A p.attrs.length c) ∧ w'.cell? ⟨w4.heap.size, 3, none⟩ = some (.string (mkS p.text))) (v := .slice (some ⟨b, o + i * 4, none⟩) 1 (cv - i)) rfl (by kernel_rfl) (by kernel_rfl) (by kernel_rfl) (fun _ _ _ h => h) (fun l w hw hS => hS) (fun _ _ => Iff.rfl) (by kernel_rfl) hS (fun w' hSw => ?_) (by kernel_rfl) (fun hS => ?_)
      · obtain ⟨s1, s2, s3, s4⟩ := hSw
        go_simp
        rw [if_pos ⟨by omega, by omega⟩, if_neg (by omega)]
      try simp only [List.getElem_toArray, List.getElem_cons_zero, List.getElem_cons_succ, Act.put, List.setIfInBounds_toArray, List.set_cons_zero, List.set_cons_succ]
      refine wpAnyS_one (i := 1) (by kernel_rfl) rfl (fun K7 hK7 => ?_)
      go_simp
      rw [← hw6]
      refine hK7.out _ _ ⟨K6.out.cell 0, K6.out.cell 1, K6.out.cell 2, K6.out.cell 3⟩ (fun hS => ?_)
      clear hK7 K7
      try simp only [List.getElem_toArray, List.getElem_cons_zero, List.getElem_cons_succ, Act.put, List.setIfInBounds_toArray, List.set_cons_zero, List.set_cons_succ]
      refine wpAnyS_one (i := 7) (by kernel_rfl) rfl (fun K7 hK7 => ?_)
      go_simp
      rw [← hw6]
      refine CS.out.mono ?_
      rintro e' w7 ⟨rfl, HR7, K7b⟩
      refine hK7.out _ _ ⟨K7b.cell 0, K7b.cell 1, K7b.cell 2, K7b.cell 3⟩ (fun hS => ?_)
      clear hK7 K7
      try simp only [List.getElem_toArray, List.getElem_cons_zero, List.getElem_cons_succ, Act.put, List.setIfInBounds_toArray, List.set_cons_zero, List.set_cons_succ]
      refine wpAnyS_take (i := 8) (fun w' => w'.cell? ⟨w4.heap.size, 0, none⟩ = some (.int .i64 p.kind) ∧ w'.cell? ⟨w4.heap.size, 1, none⟩ = some (.string (mkS p.name)) ∧ w'.cell? ⟨w4.heap.size, 2, none⟩ = some (.slice A p.attrs.length c) ∧ w'.cell? ⟨w4.heap.size, 3, none⟩ = some (.string (mkS p.text))) (v := .bool true) rfl (by kernel_rfl) (by kernel_rfl) (by kernel_rfl) (fun _ _ _ h => h) (fun l w hw hS => hS) (fun _ _ => Iff.rfl) (by kernel_rfl) hS (fun w' hSw => ?_) (by kernel_rfl) (fun hS => ?_)
      · obtain ⟨s1, s2, s3, s4⟩ := hSw
        go_simp
      try simp only [List.getElem_toArray, List.getElem_cons_zero, List.getElem_cons_succ, Act.put, List.setIfInBounds_toArray, List.set_cons_zero, List.set_cons_succ]
      refine wpAnyS_done (by kernel_rfl) ?_ _
      clear hS l0 l1 l2 l3
      go_wp2_with fail
      go_roundg (gk - 1)
      case measure => omega
      case rel => exact ⟨i + 1, by omega, rfl, HR7⟩
    · have hlt' : ¬ (i : Int) < (N : Int) := by omega
      have HBh := Lib.hid (HRi.out.stop (by rw [← HN.out]; omega))
      clear HRi
      by_cases hneg : n < 0
      · have hw1 : IntKind.i64.wrap (n + 1) = n + 1 := wrap_id _ (by omega) (by omega)
        have hw2 : IntKind.i64.wrap (-(n + 1)) = -(n + 1) := wrap_id _ (by omega) (by omega)
        go_upto_region 17 with fail
        obtain ⟨m, hm⟩ : ∃ m, m = -(n + 1) := ⟨_, rfl⟩
        have hm0 : 0 ≤ m := by omega
        have hm1 : m ≤ 9223372036854775807 := by omega
        rw [← hm]
        clear hw1 hw2 hneg hm hn0 hn1
        obtain ⟨tot, htot⟩ : ∃ tot : Nat, m % 5 + 2 = (tot : Int) := ⟨(m % 5 + 2).toNat, by omega⟩
        have htot6 : tot ≤ 6 := by omega
        by_cases he : e0 = 0
        · subst he
          have HEP : Hid (∀ A c, pcV (endP 0) A c = .agg #[.int .i64 4, .string ⟨#[]⟩, .slice A 0 c, .string ⟨#[]⟩]) := fun A c => rfl
          go_wp2_with fail
          go_loopg [14, 15, 16, 17, 18] tot (fun gk v14 v15 v16 v17 v18 wx => ∃ i : Nat, i + gk = tot ∧ v14 = .int .i64 (i : Int) ∧ Hid (Bh w2 B g 0 wx))
          case atStart => exact ⟨0, by omega, rfl, HBh⟩
          case round =>
            obtain ⟨i, hig, rfl, HBi⟩ := hrel
            by_cases hlt : i < tot
            · have hlt' : (i : Int) < (tot : Int) := by omega
              have CN := Lib.hid (next_bh HBs.out HBi.out)
              clear HBi HBh
              go_wp2_with fail
              refine CN.out.mono ?_
              rintro e w4 ⟨A, c, rfl, hcm4, hr4⟩
              clear CN
              rw [HEP.out A c]
              obtain ⟨w5, hw5⟩ : ∃ w5, w5 = (w4.alloc (.cells #[.int .i64 4, .string ⟨#[]⟩, .slice A 0 c, .string ⟨#[]⟩] 32)).alloc (.cells #[.int .i64 0, .string ⟨#[]⟩, .slice none 0 0, .string ⟨#[]⟩] 32) := ⟨_, rfl⟩
              have K5 : Blk w5 w4.heap.size 32 #[.int .i64 4, .string ⟨#[]⟩, .slice A 0 c, .string ⟨#[]⟩] := by rw [hw5]; exact (Blk.new _ _ _).alloc _
              have K5z : Blk w5 (w4.heap.size + 1) 32 #[.int .i64 0, .string ⟨#[]⟩, .slice none 0 0, .string ⟨#[]⟩] := by rw [hw5]; exact Blk.new' (by simp)
              have HB5 : Below w4.heap.size w4 w5 := by rw [hw5]; exact ((Below.refl _ _).alloc (Nat.le_refl _) _).alloc (by simp) _
              have c0 : w5.cell? ⟨w4.heap.size + 1, 0, none⟩ = some (.int .i64 0) := K5z.cell 0
              have f0 : w5.frozen? ⟨w4.heap.size + 1, 0, none⟩ = false := K5z.free 0
              go_upto_region 23 with fail
              rw [← hw5]
              clear hw5
              obtain ⟨w6, hw6⟩ : ∃ w6, w6 = w5.setCell ⟨w4.heap.size + 1, 0, none⟩ (.int .i64 4) := ⟨_, rfl⟩
              have K6 : Blk w6 w4.heap.size 32 #[.int .i64 4, .string ⟨#[]⟩, .slice A 0 c, .string ⟨#[]⟩] := by rw [hw6]; exact K5.far (by simp) _
              have K6e : Blk w6 (w4.heap.size + 1) 32 #[.int .i64 4, .string ⟨#[]⟩, .slice none 0 0, .string ⟨#[]⟩] := by rw [hw6]; exact K5z.set_ 0 _
              have HB6 : Below w4.heap.size w4 w6 := by rw [hw6]; exact HB5.setCell (by simp) _
              go_upto_region 24 with fail
              rw [← hw6]
              clear hw6 c0 f0
              clear HB5 K5 K5z
              have hR6 : Bh w2 B g 0 w6 := hr4.below HB6
              have HCS : Hid (∀ w8 a b, Below w6.heap.size w6 w8 → Blk w8 a 32 #[.int .i64 4, .string ⟨#[]⟩, .slice A 0 c, .string ⟨#[]⟩] → Blk w8 b 32 #[.int .i64 4, .string ⟨#[]⟩, .slice none 0 0, .string ⟨#[]⟩] → Calls Tryd.prog 11 #[.slice (some ⟨a, 0, none⟩) 1 1, .slice (some ⟨b, 0, none⟩) 1 1] w8 fun e' w9 => e' = .returned (.bool true) ∧ Hid (Bh w2 B g 0 w9)) := by
                intro w8 a b hb8 ka kb
                refine (same_pcs w8 (some ⟨a, 0, none⟩) (some ⟨b, 0, none⟩) [(⟨4, [], [], []⟩ : Pc)] [(⟨4, [], [], []⟩ : Pc)] 1 1 (pcs_one (A := A) (c := c) (pc := (⟨4, [], [], []⟩ : Pc)) ka (Nat.zero_le _) hcm4 (fun j u hj => by cases hj)) (pcs_one (A := none) (c := 0) (pc := (⟨4, [], [], []⟩ : Pc)) kb (Nat.zero_le _) (Nat.zero_le _) (fun j u hj => by cases hj)) (by simp) (by simp) (by unfold maxLen; omega) (by unfold maxLen; omega)).mono ?_
                rintro e' w9 ⟨⟨r, rfl, hr⟩, hb9⟩
                exact ⟨by rw [hr.2 rfl], (hR6.below hb8).below hb9⟩
              have a0 : w6.cell? ⟨w4.heap.size, 0, none⟩ = some (.int .i64 4) := K6.cell 0
              have a1 : w6.cell? ⟨w4.heap.size, 1, none⟩ = some (.string ⟨#[]⟩) := K6.cell 1
              have a2 : w6.cell? ⟨w4.heap.size, 2, none⟩ = some (.slice A 0 c) := K6.cell 2
              have a3 : w6.cell? ⟨w4.heap.size, 3, none⟩ = some (.string ⟨#[]⟩) := K6.cell 3
              have b0 : w6.cell? ⟨w4.heap.size + 1, 0, none⟩ = some (.int .i64 4) := K6e.cell 0
              have b1 : w6.cell? ⟨w4.heap.size + 1, 1, none⟩ = some (.string ⟨#[]⟩) := K6e.cell 1
              have b2 : w6.cell? ⟨w4.heap.size + 1, 2, none⟩ = some (.slice none 0 0) := K6e.cell 2
              have b3 : w6.cell? ⟨w4.heap.size + 1, 3, none⟩ = some (.string ⟨#[]⟩) := K6e.cell 3
              have lz : w4.heap.size + 1 < w6.heap.size := K6e.lt
              have HB8 : Hid (Below w6.heap.size w6 ((w6.alloc (.cells #[.int .i64 4, .string ⟨#[]⟩, .slice A 0 c, .string ⟨#[]⟩] 32)).alloc (.cells #[.int .i64 4, .string ⟨#[]⟩, .slice none 0 0, .string ⟨#[]⟩] 32))) := ((Below.refl _ _).alloc (Nat.le_refl _) _).alloc (by simp) _
              have HKa : Hid (Blk ((w6.alloc (.cells #[.int .i64 4, .string ⟨#[]⟩, .slice A 0 c, .string ⟨#[]⟩] 32)).alloc (.cells #[.int .i64 4, .string ⟨#[]⟩, .slice none 0 0, .string ⟨#[]⟩] 32)) w6.heap.size 32 #[.int .i64 4, .string ⟨#[]⟩, .slice A 0 c, .string ⟨#[]⟩]) := (Blk.new _ _ _).alloc _
              have HKb : Hid (Blk ((w6.alloc (.cells #[.int .i64 4, .string ⟨#[]⟩, .slice A 0 c, .string ⟨#[]⟩] 32)).alloc (.cells #[.int .i64 4, .string ⟨#[]⟩, .slice none 0 0, .string ⟨#[]⟩] 32)) (w6.heap.size + 1) 32 #[.int .i64 4, .string ⟨#[]⟩, .slice none 0 0, .string ⟨#[]⟩]) := Blk.new' (by simp)
              clear hR6 HB6 K6 K6e hr4 hcm4
              go_wp2_with fail
              refine (HCS.out _ _ _ HB8.out HKa.out HKb.out).mono ?_
              rintro e' w9 ⟨rfl, HB9⟩
              clear HCS HB8 HKa HKb a0 a1 a2 a3 b0 b1 b2 b3 lz
              go_wp2_with fail
              go_roundg (gk - 1)
              case measure => omega
              case rel => exact ⟨i + 1, by omega, rfl, HB9⟩
            · have hlt' : ¬ (i : Int) < (tot : Int) := by omega
              have HV := Lib.hid (HB2.out.trans (HBi.out.bel.mono HB2.out.size))
              clear HBi HBh
              go_wp2_with fail
              go_ret
              exact ⟨rfl, HV.out⟩
        · have HEP : Hid (∀ A c, pcV (endP e0) A c = .agg #[.int .i64 0, .string ⟨#[]⟩, .slice A 0 c, .string ⟨#[]⟩]) := fun A c => by unfold endP; rw [if_neg he]; rfl
          have te : (e0 == 0) = false := beq_eq_false_iff_ne.2 he
          clear he
          go_wp2_with fail
          go_loopg [14, 15, 16, 17, 18] tot (fun gk v14 v15 v16 v17 v18 wx => ∃ i : Nat, i + gk = tot ∧ v14 = .int .i64 (i : Int) ∧ Hid (Bh w2 B g e0 wx))
          case atStart => exact ⟨0, by omega, rfl, HBh⟩
          case round =>
            obtain ⟨i, hig, rfl, HBi⟩ := hrel
            by_cases hlt : i < tot
            · have hlt' : (i : Int) < (tot : Int) := by omega
              have CN := Lib.hid (next_bh HBs.out HBi.out)
              clear HBi HBh
              go_wp2_with fail
              refine CN.out.mono ?_
              rintro e w4 ⟨A, c, rfl, hcm4, hr4⟩
              clear CN
              rw [HEP.out A c]
              obtain ⟨w5, hw5⟩ : ∃ w5, w5 = (w4.alloc (.cells #[.int .i64 0, .string ⟨#[]⟩, .slice A 0 c, .string ⟨#[]⟩] 32)).alloc (.cells #[.int .i64 0, .string ⟨#[]⟩, .slice none 0 0, .string ⟨#[]⟩] 32) := ⟨_, rfl⟩
              have K5 : Blk w5 w4.heap.size 32 #[.int .i64 0, .string ⟨#[]⟩, .slice A 0 c, .string ⟨#[]⟩] := by rw [hw5]; exact (Blk.new _ _ _).alloc _
              have K5z : Blk w5 (w4.heap.size + 1) 32 #[.int .i64 0, .string ⟨#[]⟩, .slice none 0 0, .string ⟨#[]⟩] := by rw [hw5]; exact Blk.new' (by simp)
              have HB5 : Below w4.heap.size w4 w5 := by rw [hw5]; exact ((Below.refl _ _).alloc (Nat.le_refl _) _).alloc (by simp) _
              go_upto_region 24 with fail
              rw [← hw5]
              clear hw5
              obtain ⟨w6, hw6⟩ : ∃ w6, w6 = w5 := ⟨_, rfl⟩
              rw [← hw6]
              rw [← hw6] at HB5 K5 K5z
              have K6 := K5
              have K6e := K5z
              have HB6 := HB5
              clear hw6
              clear HB5 K5 K5z
              have hR6 : Bh w2 B g e0 w6 := hr4.below HB6
              have HCS : Hid (∀ w8 a b, Below w6.heap.size w6 w8 → Blk w8 a 32 #[.int .i64 0, .string ⟨#[]⟩, .slice A 0 c, .string ⟨#[]⟩] → Blk w8 b 32 #[.int .i64 0, .string ⟨#[]⟩, .slice none 0 0, .string ⟨#[]⟩] → Calls Tryd.prog 11 #[.slice (some ⟨a, 0, none⟩) 1 1, .slice (some ⟨b, 0, none⟩) 1 1] w8 fun e' w9 => e' = .returned (.bool true) ∧ Hid (Bh w2 B g e0 w9)) := by
                intro w8 a b hb8 ka kb
                refine (same_pcs w8 (some ⟨a, 0, none⟩) (some ⟨b, 0, none⟩) [(⟨0, [], [], []⟩ : Pc)] [(⟨0, [], [], []⟩ : Pc)] 1 1 (pcs_one (A := A) (c := c) (pc := (⟨0, [], [], []⟩ : Pc)) ka (Nat.zero_le _) hcm4 (fun j u hj => by cases hj)) (pcs_one (A := none) (c := 0) (pc := (⟨0, [], [], []⟩ : Pc)) kb (Nat.zero_le _) (Nat.zero_le _) (fun j u hj => by cases hj)) (by simp) (by simp) (by unfold maxLen; omega) (by unfold maxLen; omega)).mono ?_
                rintro e' w9 ⟨⟨r, rfl, hr⟩, hb9⟩
                exact ⟨by rw [hr.2 rfl], (hR6.below hb8).below hb9⟩
              have a0 : w6.cell? ⟨w4.heap.size, 0, none⟩ = some (.int .i64 0) := K6.cell 0
              have a1 : w6.cell? ⟨w4.heap.size, 1, none⟩ = some (.string ⟨#[]⟩) := K6.cell 1
              have a2 : w6.cell? ⟨w4.heap.size, 2, none⟩ = some (.slice A 0 c) := K6.cell 2
              have a3 : w6.cell? ⟨w4.heap.size, 3, none⟩ = some (.string ⟨#[]⟩) := K6.cell 3
              have b0 : w6.cell? ⟨w4.heap.size + 1, 0, none⟩ = some (.int .i64 0) := K6e.cell 0
              have b1 : w6.cell? ⟨w4.heap.size + 1, 1, none⟩ = some (.string ⟨#[]⟩) := K6e.cell 1
              have b2 : w6.cell? ⟨w4.heap.size + 1, 2, none⟩ = some (.slice none 0 0) := K6e.cell 2
              have b3 : w6.cell? ⟨w4.heap.size + 1, 3, none⟩ = some (.string ⟨#[]⟩) := K6e.cell 3
              have lz : w4.heap.size + 1 < w6.heap.size := K6e.lt
              have HB8 : Hid (Below w6.heap.size w6 ((w6.alloc (.cells #[.int .i64 0, .string ⟨#[]⟩, .slice A 0 c, .string ⟨#[]⟩] 32)).alloc (.cells #[.int .i64 0, .string ⟨#[]⟩, .slice none 0 0, .string ⟨#[]⟩] 32))) := ((Below.refl _ _).alloc (Nat.le_refl _) _).alloc (by simp) _
              have HKa : Hid (Blk ((w6.alloc (.cells #[.int .i64 0, .string ⟨#[]⟩, .slice A 0 c, .string ⟨#[]⟩] 32)).alloc (.cells #[.int .i64 0, .string ⟨#[]⟩, .slice none 0 0, .string ⟨#[]⟩] 32)) w6.heap.size 32 #[.int .i64 0, .string ⟨#[]⟩, .slice A 0 c, .string ⟨#[]⟩]) := (Blk.new _ _ _).alloc _
              have HKb : Hid (Blk ((w6.alloc (.cells #[.int .i64 0, .string ⟨#[]⟩, .slice A 0 c, .string ⟨#[]⟩] 32)).alloc (.cells #[.int .i64 0, .string ⟨#[]⟩, .slice none 0 0, .string ⟨#[]⟩] 32)) (w6.heap.size + 1) 32 #[.int .i64 0, .string ⟨#[]⟩, .slice none 0 0, .string ⟨#[]⟩]) := Blk.new' (by simp)
              clear hR6 HB6 K6 K6e hr4 hcm4
              go_wp2_with fail
              refine (HCS.out _ _ _ HB8.out HKa.out HKb.out).mono ?_
              rintro e' w9 ⟨rfl, HB9⟩
              clear HCS HB8 HKa HKb a0 a1 a2 a3 b0 b1 b2 b3 lz
              go_wp2_with fail
              go_roundg (gk - 1)
              case measure => omega
              case rel => exact ⟨i + 1, by omega, rfl, HB9⟩
            · have hlt' : ¬ (i : Int) < (tot : Int) := by omega
              have HV := Lib.hid (HB2.out.trans (HBi.out.bel.mono HB2.out.size))
              clear HBi HBh
              go_wp2_with fail
              go_ret
              exact ⟨rfl, HV.out⟩
      · have hm0 : 0 ≤ n := by omega
        obtain ⟨tot, htot⟩ : ∃ tot : Nat, n % 5 + 2 = (tot : Int) := ⟨(n % 5 + 2).toNat, by omega⟩
        have htot6 : tot ≤ 6 := by omega
        by_cases he : e0 = 0
        · subst he
          have HEP : Hid (∀ A c, pcV (endP 0) A c = .agg #[.int .i64 4, .string ⟨#[]⟩, .slice A 0 c, .string ⟨#[]⟩]) := fun A c => rfl
          go_wp2_with fail
          go_loopg [14, 15, 16, 17, 18] tot (fun gk v14 v15 v16 v17 v18 wx => ∃ i : Nat, i + gk = tot ∧ v14 = .int .i64 (i : Int) ∧ Hid (Bh w2 B g 0 wx))
          case atStart => exact ⟨0, by omega, rfl, HBh⟩
          case round =>
            obtain ⟨i, hig, rfl, HBi⟩ := hrel
            by_cases hlt : i < tot
            · have hlt' : (i : Int) < (tot : Int) := by omega
              have CN := Lib.hid (next_bh HBs.out HBi.out)
              clear HBi HBh
              go_wp2_with fail
              refine CN.out.mono ?_
              rintro e w4 ⟨A, c, rfl, hcm4, hr4⟩
              clear CN
              rw [HEP.out A c]
              obtain ⟨w5, hw5⟩ : ∃ w5, w5 = (w4.alloc (.cells #[.int .i64 4, .string ⟨#[]⟩, .slice A 0 c, .string ⟨#[]⟩] 32)).alloc (.cells #[.int .i64 0, .string ⟨#[]⟩, .slice none 0 0, .string ⟨#[]⟩] 32) := ⟨_, rfl⟩
              have K5 : Blk w5 w4.heap.size 32 #[.int .i64 4, .string ⟨#[]⟩, .slice A 0 c, .string ⟨#[]⟩] := by rw [hw5]; exact (Blk.new _ _ _).alloc _
              have K5z : Blk w5 (w4.heap.size + 1) 32 #[.int .i64 0, .string ⟨#[]⟩, .slice none 0 0, .string ⟨#[]⟩] := by rw [hw5]; exact Blk.new' (by simp)
              have HB5 : Below w4.heap.size w4 w5 := by rw [hw5]; exact ((Below.refl _ _).alloc (Nat.le_refl _) _).alloc (by simp) _
              have c0 : w5.cell? ⟨w4.heap.size + 1, 0, none⟩ = some (.int .i64 0) := K5z.cell 0
              have f0 : w5.frozen? ⟨w4.heap.size + 1, 0, none⟩ = false := K5z.free 0
              go_upto_region 23 with fail
              rw [← hw5]
              clear hw5
              obtain ⟨w6, hw6⟩ : ∃ w6, w6 = w5.setCell ⟨w4.heap.size + 1, 0, none⟩ (.int .i64 4) := ⟨_, rfl⟩
              have K6 : Blk w6 w4.heap.size 32 #[.int .i64 4, .string ⟨#[]⟩, .slice A 0 c, .string ⟨#[]⟩] := by rw [hw6]; exact K5.far (by simp) _
              have K6e : Blk w6 (w4.heap.size + 1) 32 #[.int .i64 4, .string ⟨#[]⟩, .slice none 0 0, .string ⟨#[]⟩] := by rw [hw6]; exact K5z.set_ 0 _
              have HB6 : Below w4.heap.size w4 w6 := by rw [hw6]; exact HB5.setCell (by simp) _
              go_upto_region 24 with fail
              rw [← hw6]
              clear hw6 c0 f0
              clear HB5 K5 K5z
              have hR6 : Bh w2 B g 0 w6 := hr4.below HB6
              have HCS : Hid (∀ w8 a b, Below w6.heap.size w6 w8 → Blk w8 a 32 #[.int .i64 4, .string ⟨#[]⟩, .slice A 0 c, .string ⟨#[]⟩] → Blk w8 b 32 #[.int .i64 4, .string ⟨#[]⟩, .slice none 0 0, .string ⟨#[]⟩] → Calls Tryd.prog 11 #[.slice (some ⟨a, 0, none⟩) 1 1, .slice (some ⟨b, 0, none⟩) 1 1] w8 fun e' w9 => e' = .returned (.bool true) ∧ Hid (Bh w2 B g 0 w9)) := by
                intro w8 a b hb8 ka kb
                refine (same_pcs w8 (some ⟨a, 0, none⟩) (some ⟨b, 0, none⟩) [(⟨4, [], [], []⟩ : Pc)] [(⟨4, [], [], []⟩ : Pc)] 1 1 (pcs_one (A := A) (c := c) (pc := (⟨4, [], [], []⟩ : Pc)) ka (Nat.zero_le _) hcm4 (fun j u hj => by cases hj)) (pcs_one (A := none) (c := 0) (pc := (⟨4, [], [], []⟩ : Pc)) kb (Nat.zero_le _) (Nat.zero_le _) (fun j u hj => by cases hj)) (by simp) (by simp) (by unfold maxLen; omega) (by unfold maxLen; omega)).mono ?_
                rintro e' w9 ⟨⟨r, rfl, hr⟩, hb9⟩
                exact ⟨by rw [hr.2 rfl], (hR6.below hb8).below hb9⟩
              have a0 : w6.cell? ⟨w4.heap.size, 0, none⟩ = some (.int .i64 4) := K6.cell 0
              have a1 : w6.cell? ⟨w4.heap.size, 1, none⟩ = some (.string ⟨#[]⟩) := K6.cell 1
              have a2 : w6.cell? ⟨w4.heap.size, 2, none⟩ = some (.slice A 0 c) := K6.cell 2
              have a3 : w6.cell? ⟨w4.heap.size, 3, none⟩ = some (.string ⟨#[]⟩) := K6.cell 3
              have b0 : w6.cell? ⟨w4.heap.size + 1, 0, none⟩ = some (.int .i64 4) := K6e.cell 0
              have b1 : w6.cell? ⟨w4.heap.size + 1, 1, none⟩ = some (.string ⟨#[]⟩) := K6e.cell 1
              have b2 : w6.cell? ⟨w4.heap.size + 1, 2, none⟩ = some (.slice none 0 0) := K6e.cell 2
              have b3 : w6.cell? ⟨w4.heap.size + 1, 3, none⟩ = some (.string ⟨#[]⟩) := K6e.cell 3
              have lz : w4.heap.size + 1 < w6.heap.size := K6e.lt
              have HB8 : Hid (Below w6.heap.size w6 ((w6.alloc (.cells #[.int .i64 4, .string ⟨#[]⟩, .slice A 0 c, .string ⟨#[]⟩] 32)).alloc (.cells #[.int .i64 4, .string ⟨#[]⟩, .slice none 0 0, .string ⟨#[]⟩] 32))) := ((Below.refl _ _).alloc (Nat.le_refl _) _).alloc (by simp) _
              have HKa : Hid (Blk ((w6.alloc (.cells #[.int .i64 4, .string ⟨#[]⟩, .slice A 0 c, .string ⟨#[]⟩] 32)).alloc (.cells #[.int .i64 4, .string ⟨#[]⟩, .slice none 0 0, .string ⟨#[]⟩] 32)) w6.heap.size 32 #[.int .i64 4, .string ⟨#[]⟩, .slice A 0 c, .string ⟨#[]⟩]) := (Blk.new _ _ _).alloc _
              have HKb : Hid (Blk ((w6.alloc (.cells #[.int .i64 4, .string ⟨#[]⟩, .slice A 0 c, .string ⟨#[]⟩] 32)).alloc (.cells #[.int .i64 4, .string ⟨#[]⟩, .slice none 0 0, .string ⟨#[]⟩] 32)) (w6.heap.size + 1) 32 #[.int .i64 4, .string ⟨#[]⟩, .slice none 0 0, .string ⟨#[]⟩]) := Blk.new' (by simp)
              clear hR6 HB6 K6 K6e hr4 hcm4
              go_wp2_with fail
              refine (HCS.out _ _ _ HB8.out HKa.out HKb.out).mono ?_
              rintro e' w9 ⟨rfl, HB9⟩
              clear HCS HB8 HKa HKb a0 a1 a2 a3 b0 b1 b2 b3 lz
              go_wp2_with fail
              go_roundg (gk - 1)
              case measure => omega
              case rel => exact ⟨i + 1, by omega, rfl, HB9⟩
            · have hlt' : ¬ (i : Int) < (tot : Int) := by omega
              have HV := Lib.hid (HB2.out.trans (HBi.out.bel.mono HB2.out.size))
              clear HBi HBh
              go_wp2_with fail
              go_ret
              exact ⟨rfl, HV.out⟩
        · have HEP : Hid (∀ A c, pcV (endP e0) A c = .agg #[.int .i64 0, .string ⟨#[]⟩, .slice A 0 c, .string ⟨#[]⟩]) := fun A c => by unfold endP; rw [if_neg he]; rfl
          have te : (e0 == 0) = false := beq_eq_false_iff_ne.2 he
          clear he
          go_wp2_with fail
          go_loopg [14, 15, 16, 17, 18] tot (fun gk v14 v15 v16 v17 v18 wx => ∃ i : Nat, i + gk = tot ∧ v14 = .int .i64 (i : Int) ∧ Hid (Bh w2 B g e0 wx))
          case atStart => exact ⟨0, by omega, rfl, HBh⟩
          case round =>
            obtain ⟨i, hig, rfl, HBi⟩ := hrel
            by_cases hlt : i < tot
            · have hlt' : (i : Int) < (tot : Int) := by omega
              have CN := Lib.hid (next_bh HBs.out HBi.out)
              clear HBi HBh
              go_wp2_with fail
              refine CN.out.mono ?_
              rintro e w4 ⟨A, c, rfl, hcm4, hr4⟩
              clear CN
              rw [HEP.out A c]
              obtain ⟨w5, hw5⟩ : ∃ w5, w5 = (w4.alloc (.cells #[.int .i64 0, .string ⟨#[]⟩, .slice A 0 c, .string ⟨#[]⟩] 32)).alloc (.cells #[.int .i64 0, .string ⟨#[]⟩, .slice none 0 0, .string ⟨#[]⟩] 32) := ⟨_, rfl⟩
              have K5 : Blk w5 w4.heap.size 32 #[.int .i64 0, .string ⟨#[]⟩, .slice A 0 c, .string ⟨#[]⟩] := by rw [hw5]; exact (Blk.new _ _ _).alloc _
              have K5z : Blk w5 (w4.heap.size + 1) 32 #[.int .i64 0, .string ⟨#[]⟩, .slice none 0 0, .string ⟨#[]⟩] := by rw [hw5]; exact Blk.new' (by simp)
              have HB5 : Below w4.heap.size w4 w5 := by rw [hw5]; exact ((Below.refl _ _).alloc (Nat.le_refl _) _).alloc (by simp) _
              go_upto_region 24 with fail
              rw [← hw5]
              clear hw5
              obtain ⟨w6, hw6⟩ : ∃ w6, w6 = w5 := ⟨_, rfl⟩
              rw [← hw6]
              rw [← hw6] at HB5 K5 K5z
              have K6 := K5
              have K6e := K5z
              have HB6 := HB5
              clear hw6
              clear HB5 K5 K5z
              have hR6 : Bh w2 B g e0 w6 := hr4.below HB6
              have HCS : Hid (∀ w8 a b, Below w6.heap.size w6 w8 → Blk w8 a 32 #[.int .i64 0, .string ⟨#[]⟩, .slice A 0 c, .string ⟨#[]⟩] → Blk w8 b 32 #[.int .i64 0, .string ⟨#[]⟩, .slice none 0 0, .string ⟨#[]⟩] → Calls Tryd.prog 11 #[.slice (some ⟨a, 0, none⟩) 1 1, .slice (some ⟨b, 0, none⟩) 1 1] w8 fun e' w9 => e' = .returned (.bool true) ∧ Hid (Bh w2 B g e0 w9)) := by
                intro w8 a b hb8 ka kb
                refine (same_pcs w8 (some ⟨a, 0, none⟩) (some ⟨b, 0, none⟩) [(⟨0, [], [], []⟩ : Pc)] [(⟨0, [], [], []⟩ : Pc)] 1 1 (pcs_one (A := A) (c := c) (pc := (⟨0, [], [], []⟩ : Pc)) ka (Nat.zero_le _) hcm4 (fun j u hj => by cases hj)) (pcs_one (A := none) (c := 0) (pc := (⟨0, [], [], []⟩ : Pc)) kb (Nat.zero_le _) (Nat.zero_le _) (fun j u hj => by cases hj)) (by simp) (by simp) (by unfold maxLen; omega) (by unfold maxLen; omega)).mono ?_
                rintro e' w9 ⟨⟨r, rfl, hr⟩, hb9⟩
                exact ⟨by rw [hr.2 rfl], (hR6.below hb8).below hb9⟩
              have a0 : w6.cell? ⟨w4.heap.size, 0, none⟩ = some (.int .i64 0) := K6.cell 0
              have a1 : w6.cell? ⟨w4.heap.size, 1, none⟩ = some (.string ⟨#[]⟩) := K6.cell 1
              have a2 : w6.cell? ⟨w4.heap.size, 2, none⟩ = some (.slice A 0 c) := K6.cell 2
              have a3 : w6.cell? ⟨w4.heap.size, 3, none⟩ = some (.string ⟨#[]⟩) := K6.cell 3
              have b0 : w6.cell? ⟨w4.heap.size + 1, 0, none⟩ = some (.int .i64 0) := K6e.cell 0
              have b1 : w6.cell? ⟨w4.heap.size + 1, 1, none⟩ = some (.string ⟨#[]⟩) := K6e.cell 1
              have b2 : w6.cell? ⟨w4.heap.size + 1, 2, none⟩ = some (.slice none 0 0) := K6e.cell 2
              have b3 : w6.cell? ⟨w4.heap.size + 1, 3, none⟩ = some (.string ⟨#[]⟩) := K6e.cell 3
              have lz : w4.heap.size + 1 < w6.heap.size := K6e.lt
              have HB8 : Hid (Below w6.heap.size w6 ((w6.alloc (.cells #[.int .i64 0, .string ⟨#[]⟩, .slice A 0 c, .string ⟨#[]⟩] 32)).alloc (.cells #[.int .i64 0, .string ⟨#[]⟩, .slice none 0 0, .string ⟨#[]⟩] 32))) := ((Below.refl _ _).alloc (Nat.le_refl _) _).alloc (by simp) _
              have HKa : Hid (Blk ((w6.alloc (.cells #[.int .i64 0, .string ⟨#[]⟩, .slice A 0 c, .string ⟨#[]⟩] 32)).alloc (.cells #[.int .i64 0, .string ⟨#[]⟩, .slice none 0 0, .string ⟨#[]⟩] 32)) w6.heap.size 32 #[.int .i64 0, .string ⟨#[]⟩, .slice A 0 c, .string ⟨#[]⟩]) := (Blk.new _ _ _).alloc _
              have HKb : Hid (Blk ((w6.alloc (.cells #[.int .i64 0, .string ⟨#[]⟩, .slice A 0 c, .string ⟨#[]⟩] 32)).alloc (.cells #[.int .i64 0, .string ⟨#[]⟩, .slice none 0 0, .string ⟨#[]⟩] 32)) (w6.heap.size + 1) 32 #[.int .i64 0, .string ⟨#[]⟩, .slice none 0 0, .string ⟨#[]⟩]) := Blk.new' (by simp)
              clear hR6 HB6 K6 K6e hr4 hcm4
              go_wp2_with fail
              refine (HCS.out _ _ _ HB8.out HKa.out HKb.out).mono ?_
              rintro e' w9 ⟨rfl, HB9⟩
              clear HCS HB8 HKa HKb a0 a1 a2 a3 b0 b1 b2 b3 lz
              go_wp2_with fail
              go_roundg (gk - 1)
              case measure => omega
              case rel => exact ⟨i + 1, by omega, rfl, HB9⟩
            · have hlt' : ¬ (i : Int) < (tot : Int) := by omega
              have HV := Lib.hid (HB2.out.trans (HBi.out.bel.mono HB2.out.size))
              clear HBi HBh
              go_wp2_with fail
              go_ret
              exact ⟨rfl, HV.out⟩
end Go.Proofs.YtchkjknpmpbfhaaDoor
