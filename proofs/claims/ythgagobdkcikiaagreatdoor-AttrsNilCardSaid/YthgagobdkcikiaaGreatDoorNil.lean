/- Calls on no store; the walk of AttrsNil. -/
import Derived.Test.YthgagobdkcikiaaGreatDoorMax
import Derived.WideShapes
namespace Go.Proofs.YthgagobdkcikiaaGreatDoor
set_option linter.unusedSimpArgs false
set_option linter.unusedVariables false
open Go.RowKit Go.WideShapes

def zrV : Array Value := #[.int .i64 0, .int .i64 0, .string ⟨#[]⟩, .slice none 0 0]
set_option maxRecDepth 100000 in
theorem get_nil (a b : Value) (w : World) : Calls Tryz.prog 13 #[.pointer none, a, b] w fun e w' => e = .returned (.tuple #[.agg zrV, .int .i64 1]) ∧ Below w.heap.size w w' := by
  have KZ : Blk (w.alloc (.cells zrV 31)) w.heap.size 31 zrV := Blk.new _ _ _
  have HKZ := Lib.hid KZ
  have HB : Hid (Below w.heap.size w (w.alloc (.cells zrV 31))) := (Below.refl _ _).alloc (Nat.le_refl _) _
  obtain ⟨wa, hwa⟩ : ∃ wa, wa = w.alloc (.cells zrV 31) := ⟨_, rfl⟩
  rw [← hwa] at HKZ HB
  clear KZ
  have z0 := HKZ.out.cell 0
  have z1 := HKZ.out.cell 1
  have z2 := HKZ.out.cell 2
  have z3 := HKZ.out.cell 3
  have g0 := HKZ.out.free 0
  have g1 := HKZ.out.free 1
  have g2 := HKZ.out.free 2
  have g3 := HKZ.out.free 3
  simp [zrV] at z0 z1 z2 z3
  unfold zrV at hwa
  go_enter Tryz.func13, Tryz.ntmps13
  go_upto_region 1 with fail
  rw [← hwa]
  clear hwa
  go_wp2_with fail
  have LE := (((HKZ.out.set_ 0 (.int .i64 0)).set_ 1 (.int .i64 0)).set_ 2 (.string ⟨#[]⟩)).set_ 3 (.slice none 0 0)
  simp [zrV] at LE
  refine bodyPost_ret (v := .tuple #[.agg #[.int .i64 0, .int .i64 0, .string ⟨#[]⟩, .slice none 0 0], .int .i64 1]) (results_ct (t := 6) (u := 7) rfl _ rfl (ct_load (.inl rfl) LE)) rfl ?_
  exact ⟨rfl, (((HB.out.setCell (by simp) _).setCell (by simp) _).setCell (by simp) _).setCell (by simp) _⟩
set_option maxRecDepth 100000 in
theorem dir_nil (a : Value) (w : World) : Calls Tryz.prog 15 #[.pointer none, a] w fun e w' => e = .returned (.tuple #[.int .i64 0, .int .i64 1]) ∧ w = w' := by
  go_enter Tryz.func15, Tryz.ntmps15
  go_wp2_with fail
  go_ret2
  exact ⟨rfl, rfl⟩
set_option maxRecDepth 100000 in
theorem path_nil (a : Value) (w : World) : Calls Tryz.prog 16 #[.pointer none, a] w fun e w' => e = .returned (.tuple #[.string ⟨#[]⟩, .int .i64 0, .int .i64 1]) ∧ w = w' := by
  go_enter Tryz.func16, Tryz.ntmps16
  go_wp2_with fail
  refine bodyPost_ret (v := .tuple #[.string ⟨#[]⟩, .int .i64 0, .int .i64 1]) (by simp [results, Tryz.results16, go_sem]) rfl ⟨rfl, rfl⟩
set_option maxRecDepth 100000 in
theorem search_nil (a b c : Value) (w : World) : Calls Tryz.prog 14 #[.pointer none, a, b, c] w fun e w' => e = .returned (.tuple #[.slice none 0 0, .int .i64 1]) ∧ Below w.heap.size w w' := by
  go_enter Tryz.func14, Tryz.ntmps14
  go_wp2_with fail
  all_goals
    refine bodyPost_ret (v := .tuple #[.slice none 0 0, .int .i64 1]) (by simp [results, Tryz.results14, go_sem]) rfl ?_
    exact ⟨rfl, (((Below.refl _ _).alloc (Nat.le_refl _) _).alloc (by simp) _)⟩
set_option maxRecDepth 100000 in
theorem set_nil (a b c0 c1 c2 c3 : Value) (w : World) : Calls Tryz.prog 18 #[.pointer none, a, b, .agg #[c0, c1, c2, c3]] w fun e w' => e = .returned (.int .i64 1) ∧ Below w.heap.size w w' := by
  go_enter Tryz.func18, Tryz.ntmps18
  go_wp2_with fail
  go_ret
  exact ⟨rfl, (Below.refl _ _).alloc (Nat.le_refl _) _⟩
set_option maxRecDepth 100000 in
theorem unset_nil (a b : Value) (w : World) : Calls Tryz.prog 19 #[.pointer none, a, b] w fun e w' => e = .returned (.int .i64 1) ∧ w = w' := by
  go_enter Tryz.func19, Tryz.ntmps19
  go_wp2_with fail
  go_ret
  exact ⟨rfl, rfl⟩
set_option maxRecDepth 100000 in
theorem keys_nil (w : World) : Calls Tryz.prog 10 #[.pointer none] w fun e w' => e = .returned (.slice none 0 0) ∧ w = w' := by
  go_enter Tryz.func10, Tryz.ntmps10
  go_wp2_with fail
  go_ret
  exact ⟨rfl, rfl⟩
set_option maxRecDepth 100000 in
theorem schema_nil (a : Value) (w : World) : Calls Tryz.prog 20 #[.pointer none, a] w fun e w' => e = .returned (.slice none 0 0) ∧ w = w' := by
  go_enter Tryz.func20, Tryz.ntmps20
  go_wp2_with fail
  go_ret
  exact ⟨rfl, rfl⟩
set_option maxRecDepth 100000 in
theorem schemas_nil (w : World) : Calls Tryz.prog 11 #[.pointer none] w fun e w' => e = .returned (.int .i64 0) ∧ w = w' := by
  go_enter Tryz.func11, Tryz.ntmps11
  go_wp2_with fail
  go_ret
  exact ⟨rfl, rfl⟩
set_option maxRecDepth 100000 in
theorem sameTexts_nil (w : World) : Calls Tryz.prog 9 #[.slice none 0 0, .slice none 0 0] w fun e w' => e = .returned (.bool true) ∧ w = w' := by
  go_enter Tryz.func9, Tryz.ntmps9
  go_wp2_with fail
  go_loop [5] (fun i => i = .int .i64 0) (fun i => 0)
  case atStart => rfl
  case round =>
    subst hrel
    go_wp2_with fail
    go_ret
    exact ⟨rfl, rfl⟩
set_option maxRecDepth 100000 in
theorem sameValue_zero (w : World) : Calls Tryz.prog 17 #[.agg zrV, .agg zrV] w fun e w' => e = .returned (.bool true) ∧ Below w.heap.size w w' := by
  have C := Lib.hid sameTexts_nil
  unfold zrV
  go_enter Tryz.func17, Tryz.ntmps17
  go_wp2_with fail
  refine (C.out _).mono ?_
  rintro e w1 ⟨rfl, rfl⟩
  go_wp2_with fail
  go_ret
  exact ⟨rfl, ((Below.refl _ _).alloc (Nat.le_refl _) _).alloc (by simp) _⟩
set_option maxRecDepth 100000 in
theorem In.op {H : Type} {enc : TypeId × Value → H} {W : World} {v : Value} {di : DataW H} (h : In enc Tryz.prog W 33 v di) : ∃ c0 c1 c2 c3 c4 c5 c6 c7 c8, v = .agg #[c0, c1, c2, c3, c4, c5, c6, c7, c8] := by
  obtain ⟨⟨b, hv⟩, ps, fuel, hf⟩ := h
  obtain ⟨cs, rfl, hs⟩ := okWide_struct Tryz.underlying33 hv
  have h4 : cs.size = 9 := hs.trans (by kernel_rfl)
  obtain ⟨l⟩ := cs
  match l, h4 with
  | [c0, c1, c2, c3, c4, c5, c6, c7, c8], _ => exact ⟨c0, c1, c2, c3, c4, c5, c6, c7, c8, rfl⟩
set_option maxHeartbeats 4000000 in
set_option maxRecDepth 100000 in
theorem attrsNil_walk {H : Type} {enc : TypeId × Value → H} (W : World) {v0 : Value} {d0 : DataW H} (h0 : In enc Tryz.prog W 33 v0 d0)
    (hL : laidMetH Tryz.prog Rows.attrsNilRow.laid W) (hsz : (DataW.weightsEach Tryz.prog [33] [d0]).all (· ≤ reachBytes) = true) (hSh : W.ShapedOpen Tryz.prog) :
    Calls Tryz.prog 4 #[v0] W (TrueBelow W) := by
  obtain ⟨c0, c1, c2, c3, c4, c5, c6, c7, c8, rfl⟩ := In.op h0
  obtain ⟨wb, hwb⟩ : ∃ wb, wb = W.alloc (.cells #[c0, c1, c2, c3, c4, c5, c6, c7, c8] 33) := ⟨_, rfl⟩
  have hb0 : Below W.heap.size W wb := by rw [hwb]; exact (Below.refl _ _).alloc (Nat.le_refl _) _
  have K0 : Blk wb W.heap.size 33 #[c0, c1, c2, c3, c4, c5, c6, c7, c8] := by rw [hwb]; exact Blk.new _ _ _
  have CA := Lib.hid (awake_any wb (MaxAt.at_ hSh hb0) (by have := (max_of hSh).2; have := hb0.size; omega))
  have HB0 := Lib.hid hb0
  have HK0 := Lib.hid K0
  clear h0 hL hsz hSh hb0 K0
  go_enter Tryz.func4, Tryz.ntmps4
  go_upto_region 1 with fail
  rw [← hwb]
  clear hwb
  go_wp2_with fail
  refine CA.out.mono ?_
  rintro e w1 ⟨rfl, hb1⟩
  have HB1 : Hid (Below W.heap.size W w1) := HB0.out.trans (hb1.mono HB0.out.size)
  have HK1 := Lib.hid (HK0.out.below hb1 HK0.out.lt)
  have HBX : Hid (∀ wx, Below w1.heap.size w1 wx → Blk wx W.heap.size 33 #[c0, c1, c2, c3, c4, c5, c6, c7, c8]) := fun wx hb => HK1.out.below hb HK1.out.lt
  have k1 := HK1.out.cell 1
  have k2 := HK1.out.cell 2
  simp at k1 k2
  have CG := Lib.hid (get_nil c1 c2 w1)
  unfold zrV at CG
  clear hb1 CA HB0 HK0
  go_wp2_with fail
  refine CG.out.mono ?_
  rintro e w2 ⟨rfl, hb2⟩
  have HB2 := Lib.hid hb2
  obtain ⟨w3, hw3⟩ : ∃ w3, w3 = w2.alloc (.cells #[.int .i64 0, .int .i64 0, .string ⟨#[]⟩, .slice none 0 0] 31) := ⟨_, rfl⟩
  have HB3 : Hid (Below w1.heap.size w1 w3) := by rw [hw3]; exact hb2.alloc hb2.size _
  have KV : Hid (Blk w3 w2.heap.size 31 #[.int .i64 0, .int .i64 0, .string ⟨#[]⟩, .slice none 0 0]) := by rw [hw3]; exact Blk.new _ _ _
  have CS := Lib.hid (search_nil c2 c7 c8)
  have CD := Lib.hid (dir_nil c8)
  have CP := Lib.hid (path_nil c1)
  have CV := Lib.hid sameValue_zero
  have CT := Lib.hid (set_nil c1 c2 c3 c4 c5 c6)
  have CU := Lib.hid (unset_nil c1 c2)
  have CK := Lib.hid keys_nil
  have CC := Lib.hid (schema_nil c1)
  have CCs := Lib.hid schemas_nil
  unfold zrV at CV
  have X3 := HBX.out _ HB3.out
  have j1 := X3.cell 1
  have j2 := X3.cell 2
  have j7 := X3.cell 7
  have j8 := X3.cell 8
  simp at j1 j2 j7 j8
  clear hb2 CG k1 k2 X3
  go_upto_region 6 with fail
  rw [← hw3]
  clear hw3
  go_wp2_with fail
  refine (CS.out _).mono ?_
  rintro e w4 ⟨rfl, hb4⟩
  have HB4 : Hid (Below w1.heap.size w1 w4) := HB3.out.trans (hb4.mono HB3.out.size)
  have KV4 := Lib.hid (KV.out.below hb4 KV.out.lt)
  have X4 := HBX.out _ HB4.out
  have i1 := X4.cell 1
  have i2 := X4.cell 2
  have i3 := X4.cell 3
  have i4 := X4.cell 4
  have i5 := X4.cell 5
  have i6 := X4.cell 6
  have i8 := X4.cell 8
  simp at i1 i2 i3 i4 i5 i6 i8
  have v0 := KV4.out.cell 0
  have v1 := KV4.out.cell 1
  have v2 := KV4.out.cell 2
  have v3 := KV4.out.cell 3
  simp at v0 v1 v2 v3
  clear hb4 j1 j2 j7 j8 X4
  go_wp2_with fail
  refine (CD.out _).mono ?_
  rintro e w9 ⟨rfl, hw⟩
  rw [← hw]; clear hw
  go_wp2_with fail
  refine (CP.out _).mono ?_
  rintro e w9 ⟨rfl, hw⟩
  rw [← hw]; clear hw
  go_wp2_with fail
  refine (CV.out _).mono ?_
  rintro e w5 ⟨rfl, hb5⟩
  have HB5 : Hid (Below w1.heap.size w1 w5) := HB4.out.trans (hb5.mono HB4.out.size)
  have X5 := HBX.out _ HB5.out
  have h1 := X5.cell 1
  have h2 := X5.cell 2
  have h3 := X5.cell 3
  have h4 := X5.cell 4
  have h5 := X5.cell 5
  have h6 := X5.cell 6
  simp at h1 h2 h3 h4 h5 h6
  clear hb5 i1 i2 i3 i4 i5 i6 i8 v0 v1 v2 v3 X5
  go_wp2_with fail
  refine (CT.out _).mono ?_
  rintro e w6 ⟨rfl, hb6⟩
  have HB6 : Hid (Below w1.heap.size w1 w6) := HB5.out.trans (hb6.mono HB5.out.size)
  have X6 := HBX.out _ HB6.out
  have i1 := X6.cell 1
  have i2 := X6.cell 2
  simp at i1 i2
  clear hb6 h1 h2 h3 h4 h5 h6 X6
  go_wp2_with fail
  refine (CU.out _).mono ?_
  rintro e w9 ⟨rfl, hw⟩
  rw [← hw]; clear hw
  go_wp2_with fail
  refine (CK.out _).mono ?_
  rintro e w9 ⟨rfl, hw⟩
  rw [← hw]; clear hw
  go_wp2_with fail
  refine (CC.out _).mono ?_
  rintro e w9 ⟨rfl, hw⟩
  rw [← hw]; clear hw
  go_wp2_with fail
  refine (CCs.out _).mono ?_
  rintro e w9 ⟨rfl, hw⟩
  rw [← hw]; clear hw
  go_wp2_with fail
  go_ret
  exact ⟨rfl, HB1.out.trans (HB6.out.mono HB1.out.size)⟩
end Go.Proofs.YthgagobdkcikiaaGreatDoor
