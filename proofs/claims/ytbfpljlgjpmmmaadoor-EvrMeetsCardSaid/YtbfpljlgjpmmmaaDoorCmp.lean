/- Two versions compared: Compare. -/
import Derived.Test.YtbfpljlgjpmmmaaDoorBoth
import Derived.Test.YtbfpljlgjpmmmaaDoorVer
namespace Go.Proofs.YtbfpljlgjpmmmaaDoor
set_option linter.unusedSimpArgs false
set_option linter.unusedVariables false
open Go.RowKit

/-- What Compare answers. -/
def cmpO (kind : Int) (A B : Option Parts) : Int := match A, B with
  | some p, some q => if kindB kind then cmpEvr kind p q else 0
  | _, _ => 0
theorem both_zero {kind : Int} {A B : Option Parts} (h : bothErr kind A B = 0) : kindB kind = true ∧ ∃ p q, A = some p ∧ B = some q := by
  unfold bothErr at h
  split at h
  · rename_i hk
    split at h
    · rename_i hs
      simp only [Bool.and_eq_true, Option.isSome_iff_exists] at hs
      obtain ⟨⟨p, hp⟩, q, hq⟩ := hs
      exact ⟨hk, p, q, hp, hq⟩
    · cases h
  · cases h
theorem cmpO_bad {kind : Int} {A B : Option Parts} (h : bothErr kind A B ≠ 0) : cmpO kind A B = 0 := by
  unfold cmpO
  split
  · rename_i p q
    split
    · rename_i hk
      exact absurd (by unfold bothErr; rw [if_pos hk]; rfl) h
    · rfl
  · rfl

set_option maxHeartbeats 2000000 in
set_option maxRecDepth 100000 in
theorem compare_any (kind : Int) (a b : ByteArray) (w0 : World) : Calls Tryd.prog 14 #[.int .i64 kind, .string a, .string b] w0 fun e w' => e = .returned (.tuple #[.int .i64 (cmpO kind (parse a.data.toList) (parse b.data.toList)), .int .i64 (bothErr kind (parse a.data.toList) (parse b.data.toList))]) ∧ Below w0.heap.size w0 w' := by
  have C := Lib.hid (fun w => both_any kind a b w)
  by_cases hz : bothErr kind (parse a.data.toList) (parse b.data.toList) = 0
  · obtain ⟨hk, p, q, hp, hq⟩ := both_zero hz
    have sp := parse_size hp
    have sq := parse_size hq
    rw [hp, hq] at hz C ⊢
    unfold BothPost at C
    rw [hz, if_pos rfl, if_pos rfl] at C
    rw [hz]
    obtain ⟨e1, he1⟩ : ∃ e, e = mkS p.e := ⟨_, rfl⟩
    obtain ⟨v1, hv1⟩ : ∃ e, e = mkS p.v := ⟨_, rfl⟩
    obtain ⟨r1, hr1⟩ : ∃ e, e = mkS p.r := ⟨_, rfl⟩
    obtain ⟨e2, he2⟩ : ∃ e, e = mkS q.e := ⟨_, rfl⟩
    obtain ⟨v2, hv2⟩ : ∃ e, e = mkS q.v := ⟨_, rfl⟩
    obtain ⟨r2, hr2⟩ : ∃ e, e = mkS q.r := ⟨_, rfl⟩
    have E1 : evrV (some p) = .agg #[.string e1, .string v1, .string r1] := by rw [he1, hv1, hr1]; rfl
    have E2 : evrV (some q) = .agg #[.string e2, .string v2, .string r2] := by rw [he2, hv2, hr2]; rfl
    rw [E1, E2] at C
    have s1 : e1.size ≤ maxLen := by rw [he1, mkS_size]; unfold maxLen; omega
    have s2 : e2.size ≤ maxLen := by rw [he2, mkS_size]; unfold maxLen; omega
    have s3 : v1.size ≤ maxLen := by rw [hv1, mkS_size]; unfold maxLen; omega
    have s4 : v2.size ≤ maxLen := by rw [hv2, mkS_size]; unfold maxLen; omega
    have s5 : r1.size ≤ maxLen := by rw [hr1, mkS_size]; unfold maxLen; omega
    have s6 : r2.size ≤ maxLen := by rw [hr2, mkS_size]; unfold maxLen; omega
    have CV := Lib.hid (fun w => versions_any kind e1 v1 r1 e2 v2 r2 s1 s2 s3 s4 w)
    have CR := Lib.hid (fun w => releases_any kind r1 r2 s5 s6 w)
    have HXY : cmpO kind (some p) (some q) = thenC (thenC (cmpNum e1.data.toList e2.data.toList) (cmpTxt kind v1.data.toList v2.data.toList)) (cmpRel kind r1.data.toList r2.data.toList) := by
      show (if kindB kind = true then cmpEvr kind p q else 0) = _
      rw [if_pos hk, he1, he2, hv1, hv2, hr1, hr2]
      rfl
    have HXY := Lib.hid HXY
    generalize cmpO kind (some p) (some q) = z at *
    generalize thenC (cmpNum e1.data.toList e2.data.toList) (cmpTxt kind v1.data.toList v2.data.toList) = x at *
    generalize cmpRel kind r1.data.toList r2.data.toList = y at *
    clear hz hk hp hq sp sq he1 hv1 hr1 he2 hv2 hr2 E1 E2 s1 s2 s3 s4 s5 s6
    go_enter Tryd.func14, Tryd.ntmps14
    go_wp2_with fail
    refine (C.out _).mono ?_
    rintro e' w1 ⟨rfl, hb1⟩
    have HB := Lib.hid hb1
    have hz := hb1.size
    clear hb1 C
    go_wp2_with fail
    refine wp_region_S (fun _ w => KeepG w0 w1.heap.size #[Value.string e1, .string v1, .string r1] (w1.heap.size + 1) #[Value.string e2, .string v2, .string r2] w) (by kernel_rfl) ⟨(Blk.new w1 _ _).alloc _, Blk.new' (by simp), ((HB.out.alloc hz _).alloc (by simp; omega) _).drew⟩ (fun hS => ?_)
    refine wpAnyS_take (i := 0) (KeepG w0 w1.heap.size #[Value.string e1, .string v1, .string r1] (w1.heap.size + 1) #[Value.string e2, .string v2, .string r2]) (v := .int .i64 kind) rfl (by kernel_rfl) (by kernel_rfl) (by kernel_rfl) (fun _ _ _ h => h) (fun _ _ _ h => h) (fun _ _ => Iff.rfl) (by kernel_rfl) hS (fun w' hSw => ?_) (by rfl) (fun hS => ?_)
    · go_simp
    try simp only [Act.put, List.setIfInBounds_toArray, List.set_cons_zero, List.set_cons_succ]
    refine wpAnyS_take (i := 1) (KeepG w0 w1.heap.size #[Value.string e1, .string v1, .string r1] (w1.heap.size + 1) #[Value.string e2, .string v2, .string r2]) (v := .agg #[.string e1, .string v1, .string r1]) rfl (by kernel_rfl) (by kernel_rfl) (by kernel_rfl) (fun _ _ _ h => h) (fun _ _ _ h => h) (fun _ _ => Iff.rfl) (by kernel_rfl) hS (fun w' hSw => ?_) (by rfl) (fun hS => ?_)
    · have d0 : w'.cell? ⟨w1.heap.size, 0, none⟩ = some (.string e1) := hSw.1.cell 0
      have d1 : w'.cell? ⟨w1.heap.size, 1, none⟩ = some (.string v1) := hSw.1.cell 1
      have d2 : w'.cell? ⟨w1.heap.size, 2, none⟩ = some (.string r1) := hSw.1.cell 2
      go_simp
    try simp only [Act.put, List.setIfInBounds_toArray, List.set_cons_zero, List.set_cons_succ]
    refine wpAnyS_take (i := 2) (KeepG w0 w1.heap.size #[Value.string e1, .string v1, .string r1] (w1.heap.size + 1) #[Value.string e2, .string v2, .string r2]) (v := .agg #[.string e2, .string v2, .string r2]) rfl (by kernel_rfl) (by kernel_rfl) (by kernel_rfl) (fun _ _ _ h => h) (fun _ _ _ h => h) (fun _ _ => Iff.rfl) (by kernel_rfl) hS (fun w' hSw => ?_) (by rfl) (fun hS => ?_)
    · have d0 : w'.cell? ⟨w1.heap.size + 1, 0, none⟩ = some (.string e2) := hSw.2.1.cell 0
      have d1 : w'.cell? ⟨w1.heap.size + 1, 1, none⟩ = some (.string v2) := hSw.2.1.cell 1
      have d2 : w'.cell? ⟨w1.heap.size + 1, 2, none⟩ = some (.string r2) := hSw.2.1.cell 2
      go_simp
    try simp only [Act.put, List.setIfInBounds_toArray, List.set_cons_zero, List.set_cons_succ]
    refine wpAnyS_take (i := 4) (KeepG w0 w1.heap.size #[Value.string e1, .string v1, .string r1] (w1.heap.size + 1) #[Value.string e2, .string v2, .string r2]) (v := .int .i64 kind) rfl (by kernel_rfl) (by kernel_rfl) (by kernel_rfl) (fun _ _ _ h => h) (fun _ _ _ h => h) (fun _ _ => Iff.rfl) (by kernel_rfl) hS (fun w' hSw => ?_) (by rfl) (fun hS => ?_)
    · go_simp
    try simp only [Act.put, List.setIfInBounds_toArray, List.set_cons_zero, List.set_cons_succ]
    refine wpAnyS_take (i := 5) (KeepG w0 w1.heap.size #[Value.string e1, .string v1, .string r1] (w1.heap.size + 1) #[Value.string e2, .string v2, .string r2]) (v := .pointer (some ⟨w1.heap.size, 2, none⟩)) rfl (by kernel_rfl) (by kernel_rfl) (by kernel_rfl) (fun _ _ _ h => h) (fun _ _ _ h => h) (fun _ _ => Iff.rfl) (by kernel_rfl) hS (fun w' hSw => ?_) (by rfl) (fun hS => ?_)
    · go_simp
    try simp only [Act.put, List.setIfInBounds_toArray, List.set_cons_zero, List.set_cons_succ]
    refine wpAnyS_take (i := 6) (KeepG w0 w1.heap.size #[Value.string e1, .string v1, .string r1] (w1.heap.size + 1) #[Value.string e2, .string v2, .string r2]) (v := .string r1) rfl (by kernel_rfl) (by kernel_rfl) (by kernel_rfl) (fun _ _ _ h => h) (fun _ _ _ h => h) (fun _ _ => Iff.rfl) (by kernel_rfl) hS (fun w' hSw => ?_) (by rfl) (fun hS => ?_)
    · have d2 : w'.cell? ⟨w1.heap.size, 2, none⟩ = some (.string r1) := hSw.1.cell 2
      go_simp
    try simp only [Act.put, List.setIfInBounds_toArray, List.set_cons_zero, List.set_cons_succ]
    refine wpAnyS_take (i := 7) (KeepG w0 w1.heap.size #[Value.string e1, .string v1, .string r1] (w1.heap.size + 1) #[Value.string e2, .string v2, .string r2]) (v := .pointer (some ⟨w1.heap.size + 1, 2, none⟩)) rfl (by kernel_rfl) (by kernel_rfl) (by kernel_rfl) (fun _ _ _ h => h) (fun _ _ _ h => h) (fun _ _ => Iff.rfl) (by kernel_rfl) hS (fun w' hSw => ?_) (by rfl) (fun hS => ?_)
    · go_simp
    try simp only [Act.put, List.setIfInBounds_toArray, List.set_cons_zero, List.set_cons_succ]
    refine wpAnyS_take (i := 8) (KeepG w0 w1.heap.size #[Value.string e1, .string v1, .string r1] (w1.heap.size + 1) #[Value.string e2, .string v2, .string r2]) (v := .string r2) rfl (by kernel_rfl) (by kernel_rfl) (by kernel_rfl) (fun _ _ _ h => h) (fun _ _ _ h => h) (fun _ _ => Iff.rfl) (by kernel_rfl) hS (fun w' hSw => ?_) (by rfl) (fun hS => ?_)
    · have d2 : w'.cell? ⟨w1.heap.size + 1, 2, none⟩ = some (.string r2) := hSw.2.1.cell 2
      go_simp
    try simp only [Act.put, List.setIfInBounds_toArray, List.set_cons_zero, List.set_cons_succ]
    refine wpAnyS_one (i := 3) (by kernel_rfl) rfl (fun K hK => ?_)
    go_simp
    refine (CV.out _).mono ?_
    rintro e' w3 ⟨rfl, hb3⟩
    refine hK.out _ _ (hS.below hb3) (fun hS => ?_)
    clear hK K
    try simp only [Act.put, List.setIfInBounds_toArray, List.set_cons_zero, List.set_cons_succ]
    refine wpAnyS_one (i := 9) (by kernel_rfl) rfl (fun K hK => ?_)
    go_simp
    refine (CR.out _).mono ?_
    rintro e' w4 ⟨rfl, hb4⟩
    refine hK.out _ _ (hS.below hb4) (fun hS => ?_)
    clear hK K
    try simp only [Act.put, List.setIfInBounds_toArray, List.set_cons_zero, List.set_cons_succ]
    refine wpAnyS_one (i := 10) (by kernel_rfl) rfl (fun K hK => ?_)
    go_simp
    refine hK.out _ _ (hS.below ((Below.refl _ _).alloc (Nat.le_refl _) _)) (fun hS => ?_)
    clear hK K
    try simp only [Act.put, List.setIfInBounds_toArray, List.set_cons_zero, List.set_cons_succ]
    have B5 := Blk.new w4 3 #[.int .i64 x, .int .i64 y]
    refine wpAnyS_one (i := 11) (by kernel_rfl) rfl (fun K hK => ?_)
    go_simp
    refine (or_any _ x y _ (B5.cell 0) (B5.cell 1)).mono ?_
    rintro e' w5 ⟨rfl, rfl⟩
    refine hK.out _ _ hS (fun hS => ?_)
    clear hK K
    try simp only [Act.put, List.setIfInBounds_toArray, List.set_cons_zero, List.set_cons_succ]
    refine wpAnyS_one (i := 12) (by kernel_rfl) rfl (fun K hK => ?_)
    go_simp
    refine hK.out _ _ hS (fun hS => ?_)
    clear hK K
    try simp only [Act.put, List.setIfInBounds_toArray, List.set_cons_zero, List.set_cons_succ]
    refine wpAnyS_one (i := 13) (by kernel_rfl) rfl (fun K hK => ?_)
    go_simp
    refine hK.out _ _ hS (fun hS => ?_)
    clear hK K
    try simp only [Act.put, List.setIfInBounds_toArray, List.set_cons_zero, List.set_cons_succ]
    refine wpAnyS_done (by kernel_rfl) ?_ _
    go_wp2_with fail
    go_ret2
    exact ⟨by rw [HXY.out]; rfl, hS.2.2⟩
  · have HC := Lib.hid (cmpO_bad hz)
    unfold BothPost at C
    generalize bothErr kind (parse a.data.toList) (parse b.data.toList) = x at *
    rw [if_neg hz, if_neg hz] at C
    have t1 : (x == 0) = false := by simpa using hz
    have t2 : (x != 0) = true := by simpa using hz
    clear hz
    unfold evrV at C
    go_enter Tryd.func14, Tryd.ntmps14
    go_wp2_with fail
    refine (C.out _).mono ?_
    rintro e' w1 ⟨rfl, hb1⟩
    have HB := Lib.hid hb1
    have hz := hb1.size
    clear hb1 C
    go_wp2_with fail
    go_ret2
    refine ⟨by rw [HC.out]; rfl, ?_⟩
    exact (HB.out.alloc hz _).alloc (by simp; omega) _
end Go.Proofs.YtbfpljlgjpmmmaaDoor
