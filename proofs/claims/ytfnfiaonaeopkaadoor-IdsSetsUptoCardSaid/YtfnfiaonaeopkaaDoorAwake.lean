/- The calls whose answers the document fixes come out so: chandlerlaw01.awake. -/
import Derived.Test.YtfnfiaonaeopkaaDoorTakeW
import Derived.Test.YtfnfiaonaeopkaaDoorPutW
import Derived.Test.YtfnfiaonaeopkaaDoorSameW
import Derived.Test.YtfnfiaonaeopkaaDoorSortW
namespace Go.Proofs.YtfnfiaonaeopkaaDoor.old
set_option linter.unusedSimpArgs false
set_option linter.unusedVariables false
open Go.RowKit Go.Sort

theorem srt_awake : srt [3, 1, 3, -2] = [-2, 1, 3] :=
  rise_ext _ _ (srt_rise _) (by decide) (by intro x; rw [srt_mem]; simp; omega)

def TrueBelow (w : World) (e : Ending) (w' : World) : Prop := e = .returned (.bool true) ∧ Below w.heap.size w w'

set_option maxHeartbeats 1000000 in
theorem awake_any (w : World) : Calls Tryd.prog 5 #[] w (TrueBelow w) := by
  go_enter Tryd.func5, Tryd.ntmps5
  go_wp2_with fail
  refine (sort_any _ 4 4 (w.heap.size + 1) [3, 1, 3, -2] _ rfl (by omega) (Rd.newN w _ _)).mono ?_
  rintro e w1 ⟨v1, rfl, hown1, hb1⟩
  go_wp2_with fail
  refine (put_any none 0 0 0 300 [] _ rfl (by omega) Rd.nil (by omega) (by omega)).mono ?_
  rintro e w2 ⟨v2, rfl, hown2, hb2⟩
  have hput : [] ++ putF 9 300 = [172, 2] := by decide
  rw [hput] at hown2
  clear hput
  rw [srt_awake] at hown1
  obtain ⟨_, A1, c1, rfl, _, _⟩ := own_form hown1
  obtain ⟨_, A2, c2, rfl, _, _⟩ := own_form hown2
  have hr1 := (Rd.own hown1).below hb2 (Nat.le_refl _)
  obtain ⟨b, o, rfl, hlt, hc⟩ := (Rd.own hown2) 0 (.int .u8 172) rfl
  have CT : takeF 0 0 [172, 2, 7] = (300, 2, 0) := by decide
  have T := take_any (some ⟨w2.heap.size, 0, none⟩) 3 3 (w2.heap.size + 1) [172, 2, 7] _ (by decide) rfl (by omega) (Rd.newN w2 #[.int .u8 172, .int .u8 2, .int .u8 7] 5)
  rw [CT] at T
  have HT := Lib.hid T
  have hX := Lib.hid hown1
  have hY := Lib.hid hown2
  clear T CT hown1 hown2
  go_wp2_with fail
  refine HT.out.mono ?_
  rintro e w3 ⟨rfl, rfl⟩
  clear HT
  have hs2 := hb2.size
  have hs1 := hb1.size
  simp only [World.size_alloc] at hs1
  have hr1' := hr1.below ((Below.refl w1.heap.size w2).alloc hs2 (.cells #[.int .u8 172, .int .u8 2, .int .u8 7] 5)) (Nat.le_refl _)
  have hS := same_any A1 (some ⟨w2.heap.size + 1, 0, none⟩) c1 3 w1.heap.size (w2.heap.size + 2) 3 3 [-2, 1, 3] [-2, 1, 3] _ rfl rfl (by omega)
    (hr1'.below ((Below.refl w1.heap.size _).alloc (by simp; omega) (.cells #[.int .i64 (-2), .int .i64 1, .int .i64 3] 3)) (Nat.le_refl _)) (by have := Rd.newN (w2.alloc (.cells #[.int .u8 172, .int .u8 2, .int .u8 7] 5)) #[.int .i64 (-2), .int .i64 1, .int .i64 3] 3; simp only [World.size_alloc] at this; exact this)
  rw [show decide (([-2, 1, 3] : List Int) = [-2, 1, 3]) = true from rfl] at hS
  have HS := Lib.hid hS
  clear hS hr1 hr1'
  go_wp2_with fail
  refine HS.out.mono ?_
  rintro e w4 ⟨rfl, k, rfl⟩
  clear HS
  have hbel : Below w2.heap.size w2 ((w2.alloc (.cells #[.int .u8 172, .int .u8 2, .int .u8 7] 5)).alloc (.cells #[.int .i64 (-2), .int .i64 1, .int .i64 3] 3)) :=
    ((Below.refl _ _).alloc (Nat.le_refl _) _).alloc (by simp) _
  have hc4 := (World.cell?_of_block (a := ⟨b, o, none⟩) (hbel.block b hlt)).trans hc
  clear hc
  go_wp2_with fail
  go_ret
  have h1 : Below w.heap.size w w1 := ((Below.refl _ w).alloc (Nat.le_refl _) _).trans (hb1.mono (by simp))
  have h2 : Below w.heap.size w w2 := h1.trans (hb2.mono (by omega))
  exact ⟨rfl, below_drewN ((h2.alloc (by omega) _).alloc (by simp; omega) _) k⟩
end Go.Proofs.YtfnfiaonaeopkaaDoor.old
