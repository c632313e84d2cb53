/- The closures that tell of two texts' rest. -/
import Derived.Test.YtbfpljlgjpmmmaaDoorRank
import Derived.Shelf.Abstract
import Derived.Test.YtbfpljlgjpmmmaaDoorPhase
namespace Go.Proofs.YtbfpljlgjpmmmaaDoor
set_option linter.unusedSimpArgs false
set_option linter.unusedVariables false
open Go.RowKit

theorem bl_from (s : ByteArray) (n : Nat) : (s.extract n s.size).data.toList = s.data.toList.drop n := by
  rw [Lib.extract_data, List.take_of_length_le (by simp)]
theorem bl_upto (s : ByteArray) (n : Nat) : (s.extract 0 n).data.toList = s.data.toList.take n := by
  rw [Lib.extract_data]; simp
theorem strip_from (s : ByteArray) : (s.extract (s.data.toList.takeWhile isIdle).length s.size).data.toList = strip s.data.toList := by
  rw [bl_from, strip, drop_of_while]

/-- What the closure of rpm's texts answers and leaves. -/
def RestR (w : World) (ba bb : Nat) (a b : ByteArray) (e : Ending) (w' : World) : Prop :=
  e = .returned (.tuple #[.int .i64 (rankR (strip a.data.toList)), .int .i64 (rankR (strip b.data.toList))]) ∧
  ∃ a' b' : ByteArray, a'.data.toList = strip a.data.toList ∧ b'.data.toList = strip b.data.toList ∧ Blk w' ba 9 #[.string a'] ∧ Blk w' bb 9 #[.string b'] ∧ Turned [ba, bb] w w'

set_option maxHeartbeats 400000 in
set_option maxRecDepth 100000 in
theorem restR_any (ba bb : Nat) (a b : ByteArray) (w : World) (hne : ba ≠ bb) (hA : Blk w ba 9 #[.string a]) (hB : Blk w bb 9 #[.string b]) (ha : a.size ≤ maxLen) (hb : b.size ≤ maxLen) :
    Calls Tryd.prog 76 #[.pointer (some ⟨ba, 0, none⟩), .pointer (some ⟨bb, 0, none⟩)] w (RestR w ba bb a b) := by
  have hA' := Lib.hid hA
  have hB' := Lib.hid hB
  have c0 : w.cell? ⟨ba, 0, none⟩ = some (.string a) := hA.cell 0
  have c1 : w.cell? ⟨bb, 0, none⟩ = some (.string b) := hB.cell 0
  have f0 := hA.free 0
  have f1 := hB.free 0
  have C := fun s hs w => run_any isIdle_any (enters_of Tryd.func77 (by kernel_rfl) rfl) s hs w
  have CA := Lib.hid (C a ha)
  have CB := Lib.hid (C b hb)
  have na : (a.data.toList.takeWhile isIdle).length ≤ a.size := by rw [← size_len]; exact while_le _
  have nb : (b.data.toList.takeWhile isIdle).length ≤ b.size := by rw [← size_len]; exact while_le _
  have EA := Lib.hid (strip_from a)
  have EB := Lib.hid (strip_from b)
  generalize (a.data.toList.takeWhile isIdle).length = n at *
  generalize (b.data.toList.takeWhile isIdle).length = m at *
  unfold maxLen at ha hb
  clear hA hB C
  go_enter Tryd.func76, Tryd.ntmps76
  go_wp2_with fail
  refine wp_region_S (Till [(8, ⟨ba, 0, none⟩, .string a), (9, ⟨bb, 0, none⟩, .string b)]) (by kernel_rfl) (Till.two c0 c1) (fun hS => ?_)
  refine wpAnyS_take (i := 0) (fun w' => w'.cell? ⟨ba, 0, none⟩ = some (.string a)) (v := .string a) rfl (by kernel_rfl) (by kernel_rfl) (by kernel_rfl) (fun _ _ _ h => h) (fun l w hw hS => hS.out (k := 8) (by simp) (hw 8 (by kernel_rfl))) (Till.io rfl) (by kernel_rfl) hS (fun w' hSw => ?_) (by rfl) (fun hS => ?_)
  · go_simp
  try simp only [Act.put, List.setIfInBounds_toArray, List.set_cons_zero, List.set_cons_succ]
  refine wpAnyS_take (i := 1) (fun w' => w'.cell? ⟨ba, 0, none⟩ = some (.string a)) (v := .string a) rfl (by kernel_rfl) (by kernel_rfl) (by kernel_rfl) (fun _ _ _ h => h) (fun l w hw hS => hS.out (k := 8) (by simp) (hw 8 (by kernel_rfl))) (Till.io rfl) (by kernel_rfl) hS (fun w' hSw => ?_) (by rfl) (fun hS => ?_)
  · go_simp
  try simp only [Act.put, List.setIfInBounds_toArray, List.set_cons_zero, List.set_cons_succ]
  refine wpAnyS_take (i := 4) (fun w' => w'.cell? ⟨bb, 0, none⟩ = some (.string b)) (v := .string b) rfl (by kernel_rfl) (by kernel_rfl) (by kernel_rfl) (fun _ _ _ h => h) (fun l w hw hS => hS.out (k := 9) (by simp) (hw 9 (by kernel_rfl))) (Till.io rfl) (by kernel_rfl) hS (fun w' hSw => ?_) (by rfl) (fun hS => ?_)
  · go_simp
  try simp only [Act.put, List.setIfInBounds_toArray, List.set_cons_zero, List.set_cons_succ]
  refine wpAnyS_take (i := 5) (fun w' => w'.cell? ⟨bb, 0, none⟩ = some (.string b)) (v := .string b) rfl (by kernel_rfl) (by kernel_rfl) (by kernel_rfl) (fun _ _ _ h => h) (fun l w hw hS => hS.out (k := 9) (by simp) (hw 9 (by kernel_rfl))) (Till.io rfl) (by kernel_rfl) hS (fun w' hSw => ?_) (by rfl) (fun hS => ?_)
  · go_simp
  try simp only [Act.put, List.setIfInBounds_toArray, List.set_cons_zero, List.set_cons_succ]
  refine wpAnyS_one (i := 2) (by kernel_rfl) rfl (fun K hK => ?_)
  go_simp
  refine (CA.out _).mono ?_; rintro e w1 ⟨rfl, rfl⟩
  refine hK.out _ _ (hS.same (i := 2) rfl (fun _ => rfl)) (fun hS => ?_)
  clear hK K
  try simp only [Act.put, List.setIfInBounds_toArray, List.set_cons_zero, List.set_cons_succ]
  refine wpAnyS_take (i := 3) (fun _ => True) (v := .string (a.extract n a.size)) rfl (by kernel_rfl) (by kernel_rfl) (by kernel_rfl) (fun _ _ _ h => h) (fun _ _ _ _ => trivial) (Till.io rfl) (by kernel_rfl) hS (fun w' hSw => ?_) (by rfl) (fun hS => ?_)
  · go_simp
  try simp only [Act.put, List.setIfInBounds_toArray, List.set_cons_zero, List.set_cons_succ]
  refine wpAnyS_one (i := 6) (by kernel_rfl) rfl (fun K hK => ?_)
  go_simp
  refine (CB.out _).mono ?_; rintro e w1 ⟨rfl, rfl⟩
  refine hK.out _ _ (hS.same (i := 6) rfl (fun _ => rfl)) (fun hS => ?_)
  clear hK K
  try simp only [Act.put, List.setIfInBounds_toArray, List.set_cons_zero, List.set_cons_succ]
  refine wpAnyS_take (i := 7) (fun _ => True) (v := .string (b.extract m b.size)) rfl (by kernel_rfl) (by kernel_rfl) (by kernel_rfl) (fun _ _ _ h => h) (fun _ _ _ _ => trivial) (Till.io rfl) (by kernel_rfl) hS (fun w' hSw => ?_) (by rfl) (fun hS => ?_)
  · go_simp
  try simp only [Act.put, List.setIfInBounds_toArray, List.set_cons_zero, List.set_cons_succ]
  refine wpAnyS_one (i := 8) (by kernel_rfl) rfl (fun K hK => ?_)
  go_simp
  refine hK.out _ _ (hS.store1 (of_decide_eq_true (by kernel_rfl)) (by decide) (World.cell?_setCell_far _ _ _ _ hne)) (fun hS => ?_)
  clear hK K
  try simp only [Act.put, List.setIfInBounds_toArray, List.set_cons_zero, List.set_cons_succ]
  refine wpAnyS_one (i := 9) (by kernel_rfl) rfl (fun K hK => ?_)
  go_simp
  refine hK.out _ _ (Till.store2 (by kernel_rfl) (of_decide_eq_true (by kernel_rfl))) (fun hS => ?_)
  clear hK K
  try simp only [Act.put, List.setIfInBounds_toArray, List.set_cons_zero, List.set_cons_succ]
  refine wpAnyS_done (by kernel_rfl) ?_ _
  clear hS c0 c1 f0 f1
  have BA : Blk ((w.setCell ⟨ba, 0, none⟩ (.string (a.extract n a.size))).setCell ⟨bb, 0, none⟩ (.string (b.extract m b.size))) ba 9 #[.string (a.extract n a.size)] := (hA'.out.set_ 0 _).far hne _
  have BB : Blk ((w.setCell ⟨ba, 0, none⟩ (.string (a.extract n a.size))).setCell ⟨bb, 0, none⟩ (.string (b.extract m b.size))) bb 9 #[.string (b.extract m b.size)] := (hB'.out.far (Ne.symm hne) _).set_ 0 _
  have HT : Hid (Turned [ba, bb] w ((w.setCell ⟨ba, 0, none⟩ (.string (a.extract n a.size))).setCell ⟨bb, 0, none⟩ (.string (b.extract m b.size)))) := ((Turned.refl _ w).setCell (.inl (by simp)) _).setCell (.inl (by simp)) _
  generalize (w.setCell ⟨ba, 0, none⟩ (.string (a.extract n a.size))).setCell ⟨bb, 0, none⟩ (.string (b.extract m b.size)) = w2 at *
  have c0 : w2.cell? ⟨ba, 0, none⟩ = some (.string (a.extract n a.size)) := BA.cell 0
  have c1 : w2.cell? ⟨bb, 0, none⟩ = some (.string (b.extract m b.size)) := BB.cell 0
  have HA := Lib.hid BA
  have HB := Lib.hid BB
  have RA : Hid (rankR (a.extract n a.size).data.toList = rankR (strip a.data.toList)) := congrArg rankR EA.out
  have RB : Hid (rankR (b.extract m b.size).data.toList = rankR (strip b.data.toList)) := congrArg rankR EB.out
  generalize a.extract n a.size = a' at *
  generalize b.extract m b.size = b' at *
  clear BA BB hA' hB' CA CB
  go_wp2_with fail
  go_quiet ((go_at_call 78; exact (rpmRank_any _ _).mono fun _ _ h => ⟨h.1, _, h.2.symm⟩))
  go_wp2_with fail
  go_ret2
  refine ⟨?_, a', b', EA.out, EB.out, HA.out, HB.out, ?_⟩
  · rw [RA.out, RB.out]; rfl
  · exact (HT.out.drew.drewN _)

set_option maxRecDepth 100000 in
theorem restD_any (ba bb : Nat) (a b : ByteArray) (w : World) (c0 : w.cell? ⟨ba, 0, none⟩ = some (.string a)) (c1 : w.cell? ⟨bb, 0, none⟩ = some (.string b)) :
    Calls Tryd.prog 79 #[.pointer (some ⟨ba, 0, none⟩), .pointer (some ⟨bb, 0, none⟩)] w fun e w' => e = .returned (.tuple #[.int .i64 (rankD a.data.toList), .int .i64 (rankD b.data.toList)]) ∧ Below w.heap.size w w' := by
  go_enter Tryd.func79, Tryd.ntmps79
  go_wp2_with fail
  go_quiet ((go_at_call 80; exact (debRank_any _ _).mono fun _ _ h => ⟨h.1, _, h.2.symm⟩))
  go_wp2_with fail
  go_ret2
  exact ⟨rfl, below_drewN' (Below.refl _ w) _⟩
end Go.Proofs.YtbfpljlgjpmmmaaDoor
