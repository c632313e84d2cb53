/- Awake; the laws of jobs at a world. -/
import Derived.Test.YtciogfpejenedaaGreatDoorJbG
import Derived.Test.YtciogfpejenedaaGreatDoorJbH
namespace Go.Proofs.YtciogfpejenedaaGreatDoor
set_option linter.unusedSimpArgs false
set_option linter.unusedVariables false
open Go.RowKit

theorem eq_job (k h : Int) (s : ByteArray) (w : World) : (Go.binOp .eql 23 (.agg #[.int .i64 k, .int .i64 h, .string s]) (.agg #[.int .i64 k, .int .i64 h, .string s])).run Tryz.prog w = .ok (.bool true) w := by
  go_simp
theorem neq_job (k h : Int) (s : ByteArray) (w : World) : (Go.binOp .neq 23 (.agg #[.int .i64 k, .int .i64 h, .string s]) (.agg #[.int .i64 k, .int .i64 h, .string s])).run Tryz.prog w = .ok (.bool false) w := by
  go_simp
set_option maxHeartbeats 4000000 in
set_option maxRecDepth 100000 in
theorem jbAwake_any (W : World) (hW : JbW W) : Calls Tryz.prog 4 #[] W fun e w' => e = .returned (.bool true) ∧ Below W.heap.size W w' := by
  have C1 := Lib.hid (fun (s : ByteArray) (h : s = mkS jbT1) => (h.symm ▸ jobParse_any jbT1 (by decide) W hW : Calls Tryz.prog 6 #[.string s] W (ParseJ W (parseJ jbT1))))
  have C2 := Lib.hid (fun (s : ByteArray) (h : s = mkS jbT2) w' (hb : Below W.heap.size W w') => (h.symm ▸ jobParse_any jbT2 (by decide) w' (hW.below hb) : Calls Tryz.prog 6 #[.string s] w' (ParseJ w' (parseJ jbT2))))
  have C3 := Lib.hid (fun w' (hb : Below W.heap.size W w') => jobPrint_any 2 3 (mkS jwP) (by decide) w' (hW.below hb))
  rw [jb1_is] at C1
  rw [jb2_is] at C2
  have e1 : printE 2 3 (mkS jwP) = ⟨#[101, 114, 97, 115, 101, 32, 100, 101, 112, 32, 40, 97, 32, 119, 105, 116, 104, 32, 108, 105, 98, 41]⟩ := by unfold printE; rw [jb_may]; exact jb1_print
  rw [e1, jb_may] at C3
  have e2 : (if true = true then (0 : Int) else 140) = 0 := rfl
  rw [e2] at C3
  unfold ParseJ jobV errJ at C1 C2
  dsimp only at C1 C2
  clear e1 e2 hW
  go_enter Tryz.func4, Tryz.ntmps4
  go_wp2_with fail
  refine (C1.out _ (by kernel_rfl)).mono ?_
  rintro e w1 ⟨rfl, hb1⟩
  obtain ⟨w2, hw2⟩ : ∃ w2, w2 = w1.alloc (.cells #[.int .i64 2, .int .i64 3, .string (mkS jwP)] 23) := ⟨_, rfl⟩
  have hb2 : Below w1.heap.size w1 w2 := by rw [hw2]; exact (Below.refl _ _).alloc (Nat.le_refl _) _
  have hj2 : Blk w2 w1.heap.size 23 #[.int .i64 2, .int .i64 3, .string (mkS jwP)] := by rw [hw2]; exact Blk.new _ _ _
  have HB2 := Lib.hid (hb1.trans (hb2.mono hb1.size))
  have C3w := Lib.hid (C3.out w2 HB2.out)
  have HJ2 := Lib.hid hj2
  clear hb1 hb2 hj2 C1 C3
  generalize mkS jwP = JP at *
  go_upto_region 2 with fail
  rw [← hw2]
  clear hw2
  generalize w1.heap.size = bj at *
  have c0 : w2.cell? ⟨bj, 0, none⟩ = some (.int .i64 2) := HJ2.out.cell 0
  have c1 : w2.cell? ⟨bj, 1, none⟩ = some (.int .i64 3) := HJ2.out.cell 1
  have c2 : w2.cell? ⟨bj, 2, none⟩ = some (.string JP) := HJ2.out.cell 2
  go_wp2_with fail
  refine C3w.out.mono ?_
  rintro e w3 ⟨rfl, hb3⟩
  have HJ3 := Lib.hid (Blk.below HJ2.out hb3 HJ2.out.lt)
  have HB3 := Lib.hid (HB2.out.trans (hb3.mono HB2.out.size))
  have C2w := Lib.hid (fun s hs => C2.out s hs w3 HB3.out)
  clear hb3 C3w HB2 HJ2 C2 c0 c1 c2
  go_wp2_with fail
  refine (C2w.out _ (by kernel_rfl)).mono ?_
  rintro e w4 ⟨rfl, hb4⟩
  have HJ4 := Lib.hid (Blk.below HJ3.out hb4 HJ3.out.lt)
  have HB4 := Lib.hid (HB3.out.trans (hb4.mono HB3.out.size))
  clear hb4 C2w HB3 HJ3
  have hb5 : Below w4.heap.size w4 (w4.alloc (.cells #[.int .i64 0, .int .i64 0, .string ⟨#[]⟩] 23)) := (Below.refl _ _).alloc (Nat.le_refl _) _
  have hj5 := Blk.below HJ4.out hb5 HJ4.out.lt
  have HB5 := Lib.hid (HB4.out.trans (hb5.mono HB4.out.size))
  have c0 : (w4.alloc (.cells #[.int .i64 0, .int .i64 0, .string ⟨#[]⟩] 23)).cell? ⟨bj, 0, none⟩ = some (.int .i64 2) := hj5.cell 0
  have c1 : (w4.alloc (.cells #[.int .i64 0, .int .i64 0, .string ⟨#[]⟩] 23)).cell? ⟨bj, 1, none⟩ = some (.int .i64 3) := hj5.cell 1
  clear hb5 hj5 HJ4
  go_upto_region 4 with fail
  generalize w4.alloc (.cells #[.int .i64 0, .int .i64 0, .string ⟨#[]⟩] 23) = w5 at *
  go_wp2_with fail
  go_ret
  exact ⟨by first | rfl | decide, HB5.out⟩
end Go.Proofs.YtciogfpejenedaaGreatDoor
