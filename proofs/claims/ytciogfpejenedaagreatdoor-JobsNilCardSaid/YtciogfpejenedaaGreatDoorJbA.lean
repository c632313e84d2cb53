/- Words in tables, by their numbers, and numbers of words: both instances of the generic functions. -/
import Derived.Test.YtciogfpejenedaaGreatDoorDNames
namespace Go.Proofs.YtciogfpejenedaaGreatDoor
set_option linter.unusedSimpArgs false
set_option linter.unusedVariables false
open Go.RowKit

def wordX (l : List ByteArray) (n : Int) : ByteArray := if 0 ≤ n then l.getD n.toNat ⟨#[]⟩ else ⟨#[]⟩
set_option maxHeartbeats 4000000 in
set_option maxRecDepth 100000 in
theorem number8_any (a0 a1 a2 a3 a4 a5 a6 a7 s : ByteArray) (w : World) : Calls Tryz.prog 11 #[.agg #[.string a0, .string a1, .string a2, .string a3, .string a4, .string a5, .string a6, .string a7], .string s] w fun e w' =>
    e = .returned (.int .i64 (firstS [a0, a1, a2, a3, a4, a5, a6, a7] s 0)) ∧ Below w.heap.size w w' := by
  obtain ⟨x, hx⟩ : ∃ x, x = firstS [a0, a1, a2, a3, a4, a5, a6, a7] s 0 := ⟨_, rfl⟩
  rw [← hx]
  have HX := Lib.hid hx
  obtain ⟨w1, hw1⟩ : ∃ w1, w1 = w.alloc (.cells #[.string a0, .string a1, .string a2, .string a3, .string a4, .string a5, .string a6, .string a7] 42) := ⟨_, rfl⟩
  have HB : Hid (Below w.heap.size w w1) := by rw [hw1]; exact (Below.refl _ _).alloc (Nat.le_refl _) _
  have HK : Hid (Blk w1 w.heap.size 42 #[.string a0, .string a1, .string a2, .string a3, .string a4, .string a5, .string a6, .string a7]) := by rw [hw1]; exact Blk.new _ _ _
  have c0 : w1.cell? ⟨w.heap.size, 0, none⟩ = some (.string a0) := HK.out.cell 0
  have c1 : w1.cell? ⟨w.heap.size, 1, none⟩ = some (.string a1) := HK.out.cell 1
  have c2 : w1.cell? ⟨w.heap.size, 2, none⟩ = some (.string a2) := HK.out.cell 2
  have c3 : w1.cell? ⟨w.heap.size, 3, none⟩ = some (.string a3) := HK.out.cell 3
  have c4 : w1.cell? ⟨w.heap.size, 4, none⟩ = some (.string a4) := HK.out.cell 4
  have c5 : w1.cell? ⟨w.heap.size, 5, none⟩ = some (.string a5) := HK.out.cell 5
  have c6 : w1.cell? ⟨w.heap.size, 6, none⟩ = some (.string a6) := HK.out.cell 6
  have c7 : w1.cell? ⟨w.heap.size, 7, none⟩ = some (.string a7) := HK.out.cell 7
  clear hx
  go_enter Tryz.func11, Tryz.ntmps11
  go_upto_region 1 with fail
  rw [← hw1]
  clear hw1
  go_wp2_with fail
  go_loop [5, 8] (fun v5 v8 => ∃ k : Nat, k ≤ 8 ∧ v8 = .int .i64 (k : Int) ∧ Hid (x = firstS ([a0, a1, a2, a3, a4, a5, a6, a7].drop k) s k)) (fun v5 v8 => 8 - (intOf v8).toNat)
  case atStart => exact ⟨0, Nat.zero_le _, rfl, HX⟩
  case round =>
    obtain ⟨k, hk, rfl, hn⟩ := hrel
    have hk' : k = 0 ∨ k = 1 ∨ k = 2 ∨ k = 3 ∨ k = 4 ∨ k = 5 ∨ k = 6 ∨ k = 7 ∨ k = 8 := by omega
    rcases hk' with rfl | rfl | rfl | rfl | rfl | rfl | rfl | rfl | rfl
    case inr.inr.inr.inr.inr.inr.inr.inr =>
      go_wp2_with fail
      go_ret
      exact ⟨by rw [hn.out]; rfl, HB.out⟩
    all_goals clear HX
    · clear c1 c2 c3 c4 c5 c6 c7
      by_cases h : a0 = s
      · have t1 := str_yes h
        have HV : Hid (x = 0) := hn.out.trans (if_pos h)
        clear h hn
        go_wp2_with fail
        go_ret
        exact ⟨by rw [HV.out]; rfl, HB.out⟩
      · have t1 := str_ne h
        have HV : Hid (x = firstS [a1, a2, a3, a4, a5, a6, a7] s 1) := hn.out.trans (if_neg h)
        clear h hn
        go_wp2_with fail
        go_round
        case rel => exact ⟨1, by omega, rfl, HV⟩
        case measure => simp [intOf]
    · clear c0 c2 c3 c4 c5 c6 c7
      by_cases h : a1 = s
      · have t1 := str_yes h
        have HV : Hid (x = 1) := hn.out.trans (if_pos h)
        clear h hn
        go_wp2_with fail
        go_ret
        exact ⟨by rw [HV.out]; rfl, HB.out⟩
      · have t1 := str_ne h
        have HV : Hid (x = firstS [a2, a3, a4, a5, a6, a7] s 2) := hn.out.trans (if_neg h)
        clear h hn
        go_wp2_with fail
        go_round
        case rel => exact ⟨2, by omega, rfl, HV⟩
        case measure => simp [intOf]
    · clear c0 c1 c3 c4 c5 c6 c7
      by_cases h : a2 = s
      · have t1 := str_yes h
        have HV : Hid (x = 2) := hn.out.trans (if_pos h)
        clear h hn
        go_wp2_with fail
        go_ret
        exact ⟨by rw [HV.out]; rfl, HB.out⟩
      · have t1 := str_ne h
        have HV : Hid (x = firstS [a3, a4, a5, a6, a7] s 3) := hn.out.trans (if_neg h)
        clear h hn
        go_wp2_with fail
        go_round
        case rel => exact ⟨3, by omega, rfl, HV⟩
        case measure => simp [intOf]
    · clear c0 c1 c2 c4 c5 c6 c7
      by_cases h : a3 = s
      · have t1 := str_yes h
        have HV : Hid (x = 3) := hn.out.trans (if_pos h)
        clear h hn
        go_wp2_with fail
        go_ret
        exact ⟨by rw [HV.out]; rfl, HB.out⟩
      · have t1 := str_ne h
        have HV : Hid (x = firstS [a4, a5, a6, a7] s 4) := hn.out.trans (if_neg h)
        clear h hn
        go_wp2_with fail
        go_round
        case rel => exact ⟨4, by omega, rfl, HV⟩
        case measure => simp [intOf]
    · clear c0 c1 c2 c3 c5 c6 c7
      by_cases h : a4 = s
      · have t1 := str_yes h
        have HV : Hid (x = 4) := hn.out.trans (if_pos h)
        clear h hn
        go_wp2_with fail
        go_ret
        exact ⟨by rw [HV.out]; rfl, HB.out⟩
      · have t1 := str_ne h
        have HV : Hid (x = firstS [a5, a6, a7] s 5) := hn.out.trans (if_neg h)
        clear h hn
        go_wp2_with fail
        go_round
        case rel => exact ⟨5, by omega, rfl, HV⟩
        case measure => simp [intOf]
    · clear c0 c1 c2 c3 c4 c6 c7
      by_cases h : a5 = s
      · have t1 := str_yes h
        have HV : Hid (x = 5) := hn.out.trans (if_pos h)
        clear h hn
        go_wp2_with fail
        go_ret
        exact ⟨by rw [HV.out]; rfl, HB.out⟩
      · have t1 := str_ne h
        have HV : Hid (x = firstS [a6, a7] s 6) := hn.out.trans (if_neg h)
        clear h hn
        go_wp2_with fail
        go_round
        case rel => exact ⟨6, by omega, rfl, HV⟩
        case measure => simp [intOf]
    · clear c0 c1 c2 c3 c4 c5 c7
      by_cases h : a6 = s
      · have t1 := str_yes h
        have HV : Hid (x = 6) := hn.out.trans (if_pos h)
        clear h hn
        go_wp2_with fail
        go_ret
        exact ⟨by rw [HV.out]; rfl, HB.out⟩
      · have t1 := str_ne h
        have HV : Hid (x = firstS [a7] s 7) := hn.out.trans (if_neg h)
        clear h hn
        go_wp2_with fail
        go_round
        case rel => exact ⟨7, by omega, rfl, HV⟩
        case measure => simp [intOf]
    · clear c0 c1 c2 c3 c4 c5 c6
      by_cases h : a7 = s
      · have t1 := str_yes h
        have HV : Hid (x = 7) := hn.out.trans (if_pos h)
        clear h hn
        go_wp2_with fail
        go_ret
        exact ⟨by rw [HV.out]; rfl, HB.out⟩
      · have t1 := str_ne h
        have HV : Hid (x = firstS [] s 8) := hn.out.trans (if_neg h)
        clear h hn
        go_wp2_with fail
        go_round
        case rel => exact ⟨8, by omega, rfl, HV⟩
        case measure => simp [intOf]
set_option maxHeartbeats 4000000 in
set_option maxRecDepth 100000 in
theorem word8_any (a0 a1 a2 a3 a4 a5 a6 a7 : ByteArray) (n : Int) (w : World) : Calls Tryz.prog 15 #[.agg #[.string a0, .string a1, .string a2, .string a3, .string a4, .string a5, .string a6, .string a7], .int .i64 n] w fun e w' =>
    e = .returned (.string (wordX [a0, a1, a2, a3, a4, a5, a6, a7] n)) ∧ Below w.heap.size w w' := by
  obtain ⟨w1, hw1⟩ : ∃ w1, w1 = w.alloc (.cells #[.string a0, .string a1, .string a2, .string a3, .string a4, .string a5, .string a6, .string a7] 42) := ⟨_, rfl⟩
  have HB : Hid (Below w.heap.size w w1) := by rw [hw1]; exact (Below.refl _ _).alloc (Nat.le_refl _) _
  have HK : Hid (Blk w1 w.heap.size 42 #[.string a0, .string a1, .string a2, .string a3, .string a4, .string a5, .string a6, .string a7]) := by rw [hw1]; exact Blk.new _ _ _
  have c0 : w1.cell? ⟨w.heap.size, 0, none⟩ = some (.string a0) := HK.out.cell 0
  have c1 : w1.cell? ⟨w.heap.size, 1, none⟩ = some (.string a1) := HK.out.cell 1
  have c2 : w1.cell? ⟨w.heap.size, 2, none⟩ = some (.string a2) := HK.out.cell 2
  have c3 : w1.cell? ⟨w.heap.size, 3, none⟩ = some (.string a3) := HK.out.cell 3
  have c4 : w1.cell? ⟨w.heap.size, 4, none⟩ = some (.string a4) := HK.out.cell 4
  have c5 : w1.cell? ⟨w.heap.size, 5, none⟩ = some (.string a5) := HK.out.cell 5
  have c6 : w1.cell? ⟨w.heap.size, 6, none⟩ = some (.string a6) := HK.out.cell 6
  have c7 : w1.cell? ⟨w.heap.size, 7, none⟩ = some (.string a7) := HK.out.cell 7
  go_enter Tryz.func15, Tryz.ntmps15
  go_upto_region 1 with fail
  rw [← hw1]
  clear hw1
  by_cases h0 : n < 0
  · have HV : Hid (wordX [a0, a1, a2, a3, a4, a5, a6, a7] n = ⟨#[]⟩) := if_neg (by omega)
    go_wp2_with fail
    go_ret
    exact ⟨by rw [HV.out]; try rfl, HB.out⟩
  by_cases h1 : 8 ≤ n
  · have HV : Hid (wordX [a0, a1, a2, a3, a4, a5, a6, a7] n = ⟨#[]⟩) := by
      show (if 0 ≤ n then _ else _) = _
      rw [if_pos (by omega)]
      obtain ⟨k, rfl⟩ : ∃ k : Nat, n = ((k + 8 : Nat) : Int) := ⟨n.toNat - 8, by omega⟩
      rfl
    go_wp2_with fail
    go_ret
    exact ⟨by rw [HV.out]; try rfl, HB.out⟩
  have hk' : n = 0 ∨ n = 1 ∨ n = 2 ∨ n = 3 ∨ n = 4 ∨ n = 5 ∨ n = 6 ∨ n = 7 := by omega
  clear h0 h1
  rcases hk' with rfl | rfl | rfl | rfl | rfl | rfl | rfl | rfl
  all_goals
    go_wp2_with fail
    go_ret
    exact ⟨rfl, HB.out⟩
set_option maxHeartbeats 4000000 in
set_option maxRecDepth 100000 in
theorem number6_any (a0 a1 a2 a3 a4 a5 s : ByteArray) (w : World) : Calls Tryz.prog 12 #[.agg #[.string a0, .string a1, .string a2, .string a3, .string a4, .string a5], .string s] w fun e w' =>
    e = .returned (.int .i64 (firstS [a0, a1, a2, a3, a4, a5] s 0)) ∧ Below w.heap.size w w' := by
  obtain ⟨x, hx⟩ : ∃ x, x = firstS [a0, a1, a2, a3, a4, a5] s 0 := ⟨_, rfl⟩
  rw [← hx]
  have HX := Lib.hid hx
  obtain ⟨w1, hw1⟩ : ∃ w1, w1 = w.alloc (.cells #[.string a0, .string a1, .string a2, .string a3, .string a4, .string a5] 44) := ⟨_, rfl⟩
  have HB : Hid (Below w.heap.size w w1) := by rw [hw1]; exact (Below.refl _ _).alloc (Nat.le_refl _) _
  have HK : Hid (Blk w1 w.heap.size 44 #[.string a0, .string a1, .string a2, .string a3, .string a4, .string a5]) := by rw [hw1]; exact Blk.new _ _ _
  have c0 : w1.cell? ⟨w.heap.size, 0, none⟩ = some (.string a0) := HK.out.cell 0
  have c1 : w1.cell? ⟨w.heap.size, 1, none⟩ = some (.string a1) := HK.out.cell 1
  have c2 : w1.cell? ⟨w.heap.size, 2, none⟩ = some (.string a2) := HK.out.cell 2
  have c3 : w1.cell? ⟨w.heap.size, 3, none⟩ = some (.string a3) := HK.out.cell 3
  have c4 : w1.cell? ⟨w.heap.size, 4, none⟩ = some (.string a4) := HK.out.cell 4
  have c5 : w1.cell? ⟨w.heap.size, 5, none⟩ = some (.string a5) := HK.out.cell 5
  clear hx
  go_enter Tryz.func12, Tryz.ntmps12
  go_upto_region 1 with fail
  rw [← hw1]
  clear hw1
  go_wp2_with fail
  go_loop [5, 8] (fun v5 v8 => ∃ k : Nat, k ≤ 6 ∧ v8 = .int .i64 (k : Int) ∧ Hid (x = firstS ([a0, a1, a2, a3, a4, a5].drop k) s k)) (fun v5 v8 => 6 - (intOf v8).toNat)
  case atStart => exact ⟨0, Nat.zero_le _, rfl, HX⟩
  case round =>
    obtain ⟨k, hk, rfl, hn⟩ := hrel
    have hk' : k = 0 ∨ k = 1 ∨ k = 2 ∨ k = 3 ∨ k = 4 ∨ k = 5 ∨ k = 6 := by omega
    rcases hk' with rfl | rfl | rfl | rfl | rfl | rfl | rfl
    case inr.inr.inr.inr.inr.inr =>
      go_wp2_with fail
      go_ret
      exact ⟨by rw [hn.out]; rfl, HB.out⟩
    all_goals clear HX
    · clear c1 c2 c3 c4 c5
      by_cases h : a0 = s
      · have t1 := str_yes h
        have HV : Hid (x = 0) := hn.out.trans (if_pos h)
        clear h hn
        go_wp2_with fail
        go_ret
        exact ⟨by rw [HV.out]; rfl, HB.out⟩
      · have t1 := str_ne h
        have HV : Hid (x = firstS [a1, a2, a3, a4, a5] s 1) := hn.out.trans (if_neg h)
        clear h hn
        go_wp2_with fail
        go_round
        case rel => exact ⟨1, by omega, rfl, HV⟩
        case measure => simp [intOf]
    · clear c0 c2 c3 c4 c5
      by_cases h : a1 = s
      · have t1 := str_yes h
        have HV : Hid (x = 1) := hn.out.trans (if_pos h)
        clear h hn
        go_wp2_with fail
        go_ret
        exact ⟨by rw [HV.out]; rfl, HB.out⟩
      · have t1 := str_ne h
        have HV : Hid (x = firstS [a2, a3, a4, a5] s 2) := hn.out.trans (if_neg h)
        clear h hn
        go_wp2_with fail
        go_round
        case rel => exact ⟨2, by omega, rfl, HV⟩
        case measure => simp [intOf]
    · clear c0 c1 c3 c4 c5
      by_cases h : a2 = s
      · have t1 := str_yes h
        have HV : Hid (x = 2) := hn.out.trans (if_pos h)
        clear h hn
        go_wp2_with fail
        go_ret
        exact ⟨by rw [HV.out]; rfl, HB.out⟩
      · have t1 := str_ne h
        have HV : Hid (x = firstS [a3, a4, a5] s 3) := hn.out.trans (if_neg h)
        clear h hn
        go_wp2_with fail
        go_round
        case rel => exact ⟨3, by omega, rfl, HV⟩
        case measure => simp [intOf]
    · clear c0 c1 c2 c4 c5
      by_cases h : a3 = s
      · have t1 := str_yes h
        have HV : Hid (x = 3) := hn.out.trans (if_pos h)
        clear h hn
        go_wp2_with fail
        go_ret
        exact ⟨by rw [HV.out]; rfl, HB.out⟩
      · have t1 := str_ne h
        have HV : Hid (x = firstS [a4, a5] s 4) := hn.out.trans (if_neg h)
        clear h hn
        go_wp2_with fail
        go_round
        case rel => exact ⟨4, by omega, rfl, HV⟩
        case measure => simp [intOf]
    · clear c0 c1 c2 c3 c5
      by_cases h : a4 = s
      · have t1 := str_yes h
        have HV : Hid (x = 4) := hn.out.trans (if_pos h)
        clear h hn
        go_wp2_with fail
        go_ret
        exact ⟨by rw [HV.out]; rfl, HB.out⟩
      · have t1 := str_ne h
        have HV : Hid (x = firstS [a5] s 5) := hn.out.trans (if_neg h)
        clear h hn
        go_wp2_with fail
        go_round
        case rel => exact ⟨5, by omega, rfl, HV⟩
        case measure => simp [intOf]
    · clear c0 c1 c2 c3 c4
      by_cases h : a5 = s
      · have t1 := str_yes h
        have HV : Hid (x = 5) := hn.out.trans (if_pos h)
        clear h hn
        go_wp2_with fail
        go_ret
        exact ⟨by rw [HV.out]; rfl, HB.out⟩
      · have t1 := str_ne h
        have HV : Hid (x = firstS [] s 6) := hn.out.trans (if_neg h)
        clear h hn
        go_wp2_with fail
        go_round
        case rel => exact ⟨6, by omega, rfl, HV⟩
        case measure => simp [intOf]
set_option maxHeartbeats 4000000 in
set_option maxRecDepth 100000 in
theorem word6_any (a0 a1 a2 a3 a4 a5 : ByteArray) (n : Int) (w : World) : Calls Tryz.prog 16 #[.agg #[.string a0, .string a1, .string a2, .string a3, .string a4, .string a5], .int .i64 n] w fun e w' =>
    e = .returned (.string (wordX [a0, a1, a2, a3, a4, a5] n)) ∧ Below w.heap.size w w' := by
  obtain ⟨w1, hw1⟩ : ∃ w1, w1 = w.alloc (.cells #[.string a0, .string a1, .string a2, .string a3, .string a4, .string a5] 44) := ⟨_, rfl⟩
  have HB : Hid (Below w.heap.size w w1) := by rw [hw1]; exact (Below.refl _ _).alloc (Nat.le_refl _) _
  have HK : Hid (Blk w1 w.heap.size 44 #[.string a0, .string a1, .string a2, .string a3, .string a4, .string a5]) := by rw [hw1]; exact Blk.new _ _ _
  have c0 : w1.cell? ⟨w.heap.size, 0, none⟩ = some (.string a0) := HK.out.cell 0
  have c1 : w1.cell? ⟨w.heap.size, 1, none⟩ = some (.string a1) := HK.out.cell 1
  have c2 : w1.cell? ⟨w.heap.size, 2, none⟩ = some (.string a2) := HK.out.cell 2
  have c3 : w1.cell? ⟨w.heap.size, 3, none⟩ = some (.string a3) := HK.out.cell 3
  have c4 : w1.cell? ⟨w.heap.size, 4, none⟩ = some (.string a4) := HK.out.cell 4
  have c5 : w1.cell? ⟨w.heap.size, 5, none⟩ = some (.string a5) := HK.out.cell 5
  go_enter Tryz.func16, Tryz.ntmps16
  go_upto_region 1 with fail
  rw [← hw1]
  clear hw1
  by_cases h0 : n < 0
  · have HV : Hid (wordX [a0, a1, a2, a3, a4, a5] n = ⟨#[]⟩) := if_neg (by omega)
    go_wp2_with fail
    go_ret
    exact ⟨by rw [HV.out]; try rfl, HB.out⟩
  by_cases h1 : 6 ≤ n
  · have HV : Hid (wordX [a0, a1, a2, a3, a4, a5] n = ⟨#[]⟩) := by
      show (if 0 ≤ n then _ else _) = _
      rw [if_pos (by omega)]
      obtain ⟨k, rfl⟩ : ∃ k : Nat, n = ((k + 6 : Nat) : Int) := ⟨n.toNat - 6, by omega⟩
      rfl
    go_wp2_with fail
    go_ret
    exact ⟨by rw [HV.out]; try rfl, HB.out⟩
  have hk' : n = 0 ∨ n = 1 ∨ n = 2 ∨ n = 3 ∨ n = 4 ∨ n = 5 := by omega
  clear h0 h1
  rcases hk' with rfl | rfl | rfl | rfl | rfl | rfl
  all_goals
    go_wp2_with fail
    go_ret
    exact ⟨rfl, HB.out⟩
end Go.Proofs.YtciogfpejenedaaGreatDoor
