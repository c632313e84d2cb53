/- JobsNil. -/
import Derived.Test.YtciogfpejenedaaGreatDoorJbI
import Derived.Test.YtciogfpejenedaaGreatDoorDTabs
import Derived.Test.YtciogfpejenedaaGreatDoorUp
import Derived.Shelf.Vars
import Derived.LaidLaws
namespace Go.Proofs.YtciogfpejenedaaGreatDoor
set_option linter.unusedSimpArgs false
set_option linter.unusedVariables false
open Go.RowKit Go.WideShapes

theorem jmax_of {W : World} (hS : W.ShapedOpen Tryz.prog) : MaxAt W := Go.Proofs.cell_of_shapedOpen_int (zero := #[.int .i64 0]) (t := 3) hS (of_decide_eq_true (by kernel_rfl)) (by kernel_rfl) rfl (by kernel_rfl) (by kernel_rfl) Tryz.underlying3
theorem jbW_of {W : World} {laid : List (String × DataW Unit)} (hL : laidMet Tryz.prog laid W) (hd1 : ("chandler/dep.signs", Rows.laid_chandler_dep_signs) ∈ laid) (hd2 : ("chandler/dep.words", Rows.laid_chandler_dep_words) ∈ laid)
    (hk : ("chandler/jobs.kinds", Rows.laid_chandler_jobs_kinds) ∈ laid) (hh : ("chandler/jobs.hows", Rows.laid_chandler_jobs_hows) ∈ laid) (hS : W.ShapedOpen Tryz.prog) : JbW W :=
  ⟨tabs_of hL hd1 hd2,
    tab_blk (l := [[], kw1, kw2, kw3, kw4, kw5, kw6, kw7]) hL hk (by kernel_rfl) (by kernel_rfl) Tryz.underlying42 Tryz.underlying9 (by kernel_rfl) (by kernel_rfl) (by decide),
    tab_blk (l := [[], hw1, hw2, hw3, hw4, hw5]) hL hh (by kernel_rfl) (by kernel_rfl) Tryz.underlying44 Tryz.underlying9 (by kernel_rfl) (by kernel_rfl) (by decide), jmax_of hS⟩
set_option maxRecDepth 100000 in
theorem In.jobC {H : Type} {enc : TypeId × Value → H} {W : World} {v : Value} {di : DataW H} (h : In enc Tryz.prog W 23 v di) : ∃ c0 c1 c2, v = .agg #[c0, c1, c2] := by
  obtain ⟨⟨b, hv⟩, ps, fuel, hf⟩ := h
  obtain ⟨cs, rfl, hs⟩ := okWide_struct Tryz.underlying23 hv
  have h4 : cs.size = 3 := hs.trans (by kernel_rfl)
  obtain ⟨l⟩ := cs
  match l, h4 with
  | [c0, c1, c2], _ => exact ⟨c0, c1, c2, rfl⟩
set_option maxHeartbeats 4000000 in
set_option maxRecDepth 100000 in
/-- Select of no pool. -/
theorem selectNil_any (c0 c1 c2 : Value) (w : World) : Calls Tryz.prog 5 #[.pointer none, .agg #[c0, c1, c2]] w fun e w' => e = .returned (.tuple #[.slice none 0 0, .int .i64 1]) ∧ Below w.heap.size w w' := by
  have HB : Hid (Below w.heap.size w (w.alloc (.cells #[c0, c1, c2] 23))) := (Below.refl _ _).alloc (Nat.le_refl _) _
  go_enter Tryz.func5, Tryz.ntmps5
  go_wp2_with fail
  go_ret2
  exact ⟨rfl, HB.out⟩
set_option maxHeartbeats 4000000 in
set_option maxRecDepth 100000 in
theorem jobsNil_walk {H : Type} {enc : TypeId × Value → H} (W : World) {v0 : Value} {d0 : DataW H} (h0 : In enc Tryz.prog W 23 v0 d0)
    (hL : laidMetH Tryz.prog Rows.jobsNilRow.laid W) (hsz : (DataW.weightsEach Tryz.prog [23] [d0]).all (· ≤ reachBytes) = true) (hSh : W.ShapedOpen Tryz.prog) :
    Calls Tryz.prog 3 #[v0] W (TrueBelow W) := by
  obtain ⟨c0, c1, c2, rfl⟩ := In.jobC h0
  rw [MakeChecks.laidMetH_plain _ _ _ (by kernel_rfl)] at hL
  have hE := jbW_of hL (by simp [Rows.jobsNilRow]) (by simp [Rows.jobsNilRow]) (by simp [Rows.jobsNilRow]) (by simp [Rows.jobsNilRow]) hSh
  obtain ⟨w1, hw1⟩ : ∃ w1, w1 = W.alloc (.cells #[c0, c1, c2] 23) := ⟨_, rfl⟩
  have hb1 : Below W.heap.size W w1 := by rw [hw1]; exact (Below.refl _ _).alloc (Nat.le_refl _) _
  have hj1 : Blk w1 W.heap.size 23 #[c0, c1, c2] := by rw [hw1]; exact Blk.new _ _ _
  have CA := Lib.hid (jbAwake_any w1 (hE.below hb1))
  have CS := Lib.hid (fun wx => selectNil_any c0 c1 c2 wx)
  have HJ1 := Lib.hid hj1
  have HB1 := Lib.hid hb1
  clear hb1 hj1 hE hL hsz h0
  go_enter Tryz.func3, Tryz.ntmps3
  go_upto_region 1 with fail
  rw [← hw1]
  clear hw1
  go_wp2_with fail
  refine CA.out.mono ?_
  rintro e w2 ⟨rfl, hb2⟩
  have HB2 := Lib.hid (HB1.out.trans (hb2.mono HB1.out.size))
  have hj2 := Blk.below HJ1.out hb2 HJ1.out.lt
  have z0 : w2.cell? ⟨W.heap.size, 0, none⟩ = some c0 := hj2.cell 0
  have z1 : w2.cell? ⟨W.heap.size, 1, none⟩ = some c1 := hj2.cell 1
  have z2 : w2.cell? ⟨W.heap.size, 2, none⟩ = some c2 := hj2.cell 2
  clear hb2 hj2 CA HJ1 HB1
  go_wp2_with fail
  refine (CS.out _).mono ?_
  rintro e w3 ⟨rfl, hb3⟩
  have HB3 := Lib.hid (HB2.out.trans (hb3.mono HB2.out.size))
  clear hb3 CS z0 z1 z2
  go_wp2_with fail
  go_ret
  exact ⟨by first | rfl | decide, HB3.out⟩
end Go.Proofs.YtciogfpejenedaaGreatDoor
