/- PoolNames and PoolNil: the walks of the laws. -/
import Derived.Test.YtinldjjbfhpnkaaDoorPAwake
import Derived.Test.YtinldjjbfhpnkaaDoorDTabs
namespace Go.Proofs.YtinldjjbfhpnkaaDoor
set_option linter.unusedSimpArgs false
set_option linter.unusedVariables false
open Go.RowKit Go.WideShapes

set_option maxHeartbeats 2000000 in
set_option maxRecDepth 100000 in
theorem poolNames_walk (W : World) (hL : laidMetH Tryd.prog Rows.poolNamesRow.laid W) : Calls Tryd.prog 3 #[] W (TrueBelow W) := by
  rw [MakeChecks.laidMetH_plain _ _ _ (by kernel_rfl)] at hL
  have hT : Tabs W := tabs_of hL (by simp [Rows.poolNamesRow]) (by simp [Rows.poolNamesRow])
  clear hL
  have C := Lib.hid (poolAwake_any W hT)
  clear hT
  go_enter Tryd.func3, Tryd.ntmps3
  go_wp2_with fail
  refine C.out.mono ?_
  rintro e w1 ⟨rfl, hb1⟩
  go_wp2_with fail
  go_ret
  exact ⟨rfl, hb1⟩

/-! Calls on no pool. -/
set_option maxRecDepth 100000 in
theorem add_nil (c0 c1 c2 c3 : Value) (w : World) : Calls Tryd.prog 14 #[.pointer none, .agg #[c0, c1, c2, c3]] w fun e w' => e = .returned (.int .i64 1) ∧ Below w.heap.size w w' := by
  have HB : Hid (Below w.heap.size w (w.alloc (.cells #[c0, c1, c2, c3] 34))) := (Below.refl _ _).alloc (Nat.le_refl _) _
  go_enter Tryd.func14, Tryd.ntmps14
  go_wp2_with fail
  go_ret
  exact ⟨rfl, HB.out⟩
set_option maxRecDepth 100000 in
theorem kind_nil (w : World) : Calls Tryd.prog 17 #[.pointer none] w fun e w' => e = .returned (.int .i64 0) ∧ w = w' := by
  go_enter Tryd.func17, Tryd.ntmps17
  go_wp2_with fail
  go_ret
  exact ⟨rfl, rfl⟩
set_option maxRecDepth 100000 in
theorem len_nil (w : World) : Calls Tryd.prog 15 #[.pointer none] w fun e w' => e = .returned (.int .i64 0) ∧ w = w' := by
  go_enter Tryd.func15, Tryd.ntmps15
  go_wp2_with fail
  go_ret
  exact ⟨rfl, rfl⟩
set_option maxRecDepth 100000 in
theorem repos_nil (w : World) : Calls Tryd.prog 18 #[.pointer none] w fun e w' => e = .returned (.slice none 0 0) ∧ w = w' := by
  go_enter Tryd.func18, Tryd.ntmps18
  go_wp2_with fail
  go_ret
  exact ⟨rfl, rfl⟩
set_option maxRecDepth 100000 in
theorem installed_nil (w : World) : Calls Tryd.prog 19 #[.pointer none] w fun e w' => e = .returned (.slice none 0 0) ∧ w = w' := by
  go_enter Tryd.func19, Tryd.ntmps19
  go_wp2_with fail
  go_ret
  exact ⟨rfl, rfl⟩
set_option maxRecDepth 100000 in
theorem named_nil (name : ByteArray) (w : World) : Calls Tryd.prog 20 #[.pointer none, .string name] w fun e w' => e = .returned (.slice none 0 0) ∧ w = w' := by
  go_enter Tryd.func20, Tryd.ntmps20
  go_wp2_with fail
  go_ret
  exact ⟨rfl, rfl⟩
set_option maxRecDepth 100000 in
theorem In.repo {H : Type} {enc : TypeId × Value → H} {W : World} {v : Value} {di : DataW H} (h : In enc Tryd.prog W 34 v di) : ∃ c0 c1 c2 c3, v = .agg #[c0, c1, c2, c3] := by
  obtain ⟨⟨b, hv⟩, ps, fuel, hf⟩ := h
  obtain ⟨cs, rfl, hs⟩ := okWide_struct Tryd.underlying34 hv
  have h4 : cs.size = 4 := hs.trans (by kernel_rfl)
  obtain ⟨l⟩ := cs
  match l, h4 with
  | [c0, c1, c2, c3], _ => exact ⟨c0, c1, c2, c3, rfl⟩
set_option maxHeartbeats 2000000 in
set_option maxRecDepth 100000 in
theorem poolNil_any (c0 c1 c2 c3 : Value) (id : Int) (name : ByteArray) (W : World) (hT : Tabs W) : Calls Tryd.prog 6 #[.agg #[c0, c1, c2, c3], .int .i64 id, .string name] W (TrueBelow W) := by
  have hb0 : Below W.heap.size W (W.alloc (.cells #[c0, c1, c2, c3] 34)) := (Below.refl _ _).alloc (Nat.le_refl _) _
  have K0 : Blk (W.alloc (.cells #[c0, c1, c2, c3] 34)) W.heap.size 34 #[c0, c1, c2, c3] := Blk.new _ _ _
  have C := Lib.hid (poolAwake_any _ (hT.below hb0 hT.two))
  have HB0 := Lib.hid hb0
  have HK0 := Lib.hid K0
  clear hT hb0 K0
  go_enter Tryd.func6, Tryd.ntmps6
  go_wp2_with fail
  refine C.out.mono ?_
  rintro e w1 ⟨rfl, hb1⟩
  have HB1 : Hid (Below W.heap.size W w1) := HB0.out.trans (hb1.mono (by simp))
  have K1 := HK0.out.below hb1 HK0.out.lt
  have HK1 := Lib.hid K1
  have CP := Lib.hid (package_nil id w1)
  clear hb1 C HB0 HK0 K1
  go_wp2_with fail
  refine CP.out.mono ?_
  rintro e w2 ⟨hb2, rfl⟩
  obtain ⟨w3, hw3⟩ : ∃ w3, w3 = w2.alloc (.cells zrP 26) := ⟨_, rfl⟩
  have hba : Below w2.heap.size w2 w3 := by rw [hw3]; exact (Below.refl _ _).alloc (Nat.le_refl _) _
  have HB3 : Hid (Below W.heap.size W w3) := by
    have h := HB1.out.trans (hb2.mono HB1.out.size)
    exact h.trans (hba.mono h.size)
  have K3 := (HK1.out.below hb2 HK1.out.lt).below hba (HK1.out.below hb2 HK1.out.lt).lt
  have KP : Blk w3 w2.heap.size 26 zrP := by rw [hw3]; exact Blk.new _ _ _
  have k0 := K3.cell 0
  have k1 := K3.cell 1
  have k2 := K3.cell 2
  have k3 := K3.cell 3
  simp at k0 k1 k2 k3
  have CA := Lib.hid (add_nil c0 c1 c2 c3 w3)
  have CK := Lib.hid kind_nil
  have CL := Lib.hid len_nil
  have CR := Lib.hid repos_nil
  have CI := Lib.hid installed_nil
  have CN := Lib.hid (named_nil name)
  have HKP := Lib.hid KP
  unfold zrP at hw3 HKP
  have HW3 := Lib.hid hw3
  unfold zrP
  clear hb2 hba CP K3 KP HB1 HK1 hw3
  go_upto_region 6 with fail
  rw [← HW3.out]
  clear HW3
  go_wp2_with fail
  refine CA.out.mono ?_
  rintro e w4 ⟨rfl, hb4⟩
  have HB4 : Hid (Below W.heap.size W w4) := HB3.out.trans (hb4.mono HB3.out.size)
  have n0 := (HKP.out.below hb4 HKP.out.lt).cell 0
  simp at n0
  clear hb4 CA k0 k1 k2 k3 HB3 HKP
  go_wp2_with fail
  refine (CK.out _).mono ?_
  rintro e w5 ⟨rfl, rfl⟩
  go_wp2_with fail
  refine (CL.out _).mono ?_
  rintro e w5 ⟨rfl, rfl⟩
  go_wp2_with fail
  refine (CR.out _).mono ?_
  rintro e w5 ⟨rfl, rfl⟩
  go_wp2_with fail
  refine (CI.out _).mono ?_
  rintro e w5 ⟨rfl, rfl⟩
  go_wp2_with fail
  refine (CN.out _).mono ?_
  rintro e w5 ⟨rfl, rfl⟩
  go_wp2_with fail
  go_ret
  exact ⟨rfl, HB4.out⟩
theorem poolNil_walk {H : Type} {enc : TypeId × Value → H} (W : World) {v0 v1 v2 : Value} {d0 d1 d2 : DataW H} (h0 : In enc Tryd.prog W 34 v0 d0) (h1 : In enc Tryd.prog W 3 v1 d1) (h2 : In enc Tryd.prog W 9 v2 d2) (hL : laidMetH Tryd.prog Rows.poolNilRow.laid W)
    (hsz : (DataW.weightsEach Tryd.prog ([34, 3, 9] ++ Rows.poolNilSpec.plain.varTypes Tryd.prog) ([d0, d1, d2] ++ [])).all (· ≤ reachBytes) = true) :
    Calls Tryd.prog 6 #[v0, v1, v2] W (TrueBelow W) := by
  obtain ⟨c0, c1, c2, c3, rfl⟩ := In.repo h0
  obtain ⟨n, rfl, _, _⟩ := h1.int Tryd.underlying3
  obtain ⟨s, rfl, _, _⟩ := h2.string Tryd.underlying9
  rw [MakeChecks.laidMetH_plain _ _ _ (by kernel_rfl)] at hL
  exact poolNil_any c0 c1 c2 c3 n s W (tabs_of hL (by simp [Rows.poolNilRow]) (by simp [Rows.poolNilRow]))
end Go.Proofs.YtinldjjbfhpnkaaDoor
