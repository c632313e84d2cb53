/- JobsBack at a world. -/
import Derived.Test.YtciogfpejenedaaDoorJbI
namespace Go.Proofs.YtciogfpejenedaaDoor
set_option linter.unusedSimpArgs false
set_option linter.unusedVariables false
open Go.RowKit

theorem printX_size (k h : Int) (s : ByteArray) : (printX k h s).size ≤ s.size + 20 := by
  unfold printX
  have h1 := kinds_size k
  have h2 := hows_size h
  have e : (⟨#[32]⟩ : ByteArray).size = 1 := rfl
  have e0 : (⟨#[]⟩ : ByteArray).size = 0 := rfl
  split
  · simp only [ByteArray.size_append]; omega
  · simp only [ByteArray.size_append]; omega
theorem print_len (k h : Int) (s : ByteArray) (hs : s.size ≤ 1500000) : (printX k h s).data.toList.length ≤ 2000000 := by
  have h1 := printX_size k h s
  have h2 := size_len (printX k h s)
  omega
set_option maxHeartbeats 16000000 in
set_option maxRecDepth 1000000 in
theorem jobsBack_any (k h : Int) (s : ByteArray) (t : List UInt8) (hs : s.size ≤ 1048576) (ht : t.length ≤ 1048576) (W : World) (hW : JbW W) :
    Calls Tryd.prog 4 #[.agg #[.int .i64 k, .int .i64 h, .string s], .string (mkS t)] W fun e w' => e = .returned (.bool true) ∧ Below W.heap.size W w' := by
  obtain ⟨w1, hw1⟩ : ∃ w1, w1 = W.alloc (.cells #[.int .i64 k, .int .i64 h, .string s] 24) := ⟨_, rfl⟩
  have hb1 : Below W.heap.size W w1 := by rw [hw1]; exact (Below.refl _ _).alloc (Nat.le_refl _) _
  have hj1 : Blk w1 W.heap.size 24 #[.int .i64 k, .int .i64 h, .string s] := by rw [hw1]; exact Blk.new _ _ _
  have HWW := Lib.hid (fun wx (hb : Below W.heap.size W wx) => hW.below hb)
  have CA := Lib.hid (jbAwake_any w1 (hW.below hb1))
  have CP1 := Lib.hid (fun wx (hb : Below W.heap.size W wx) => jobPrint_any k h s (by omega) wx (HWW.out wx hb))
  have CB1 := Lib.hid (fun wx (hb : Below W.heap.size W wx) (hm : mayX k h s = true) => (job_back hm ▸ jobParse_any (printX k h s).data.toList (print_len k h s (by omega)) wx (HWW.out wx hb) : Calls Tryd.prog 7 #[.string (printX k h s)] wx (ParseJ wx (some (k, h, s)))))
  have CL := Lib.hid (fun wx (hb : Below W.heap.size W wx) => jobParse_any t (by omega) wx (HWW.out wx hb))
  have CP2 := Lib.hid (fun wx (hb : Below W.heap.size W wx) (k2 h2 : Int) (s2 : ByteArray) (hp : parseJ t = some (k2, h2, s2)) => jobPrint_any k2 h2 s2 (by have := (parse_may hp).2; omega) wx (HWW.out wx hb))
  have CB2 := Lib.hid (fun wx (hb : Below W.heap.size W wx) (k2 h2 : Int) (s2 : ByteArray) (hp : parseJ t = some (k2, h2, s2)) => (job_back (parse_may hp).1 ▸ jobParse_any (printX k2 h2 s2).data.toList (print_len k2 h2 s2 (by have := (parse_may hp).2; omega)) wx (HWW.out wx hb) : Calls Tryd.prog 7 #[.string (printX k2 h2 s2)] wx (ParseJ wx (some (k2, h2, s2)))))
  have HPM := Lib.hid (fun k2 h2 s2 (hp : parseJ t = some (k2, h2, s2)) => (parse_may hp).1)
  have HJ1 := Lib.hid hj1
  have HB1 := Lib.hid hb1
  clear hb1 hj1 hW HWW hs ht
  generalize mkS t = LN at *
  generalize parseJ t = X at *
  go_enter Tryd.func4, Tryd.ntmps4
  go_upto_region 1 with fail
  rw [← hw1]
  clear hw1
  go_wp2_with fail
  refine CA.out.mono ?_
  rintro e w2 ⟨rfl, hb2⟩
  have HJ2 := Lib.hid (Blk.below HJ1.out hb2 HJ1.out.lt)
  have HB2 := Lib.hid (HB1.out.trans (hb2.mono HB1.out.size))
  have CPw := Lib.hid (CP1.out w2 HB2.out)
  have c0 : w2.cell? ⟨W.heap.size, 0, none⟩ = some (.int .i64 k) := HJ2.out.cell 0
  have c1 : w2.cell? ⟨W.heap.size, 1, none⟩ = some (.int .i64 h) := HJ2.out.cell 1
  have c2 : w2.cell? ⟨W.heap.size, 2, none⟩ = some (.string s) := HJ2.out.cell 2
  clear hb2 CA CP1 HJ1 HB1
  go_wp2_with fail
  refine CPw.out.mono ?_
  rintro e w3 ⟨rfl, hb3⟩
  have HJ3 := Lib.hid (Blk.below HJ2.out hb3 HJ2.out.lt)
  have HB3 := Lib.hid (HB2.out.trans (hb3.mono HB2.out.size))
  clear hb3 CPw HJ2 HB2 c0 c1 c2
  -- the second half, behind any world
  cases hm : mayX k h s with
  | false =>
    have e1 : printE k h s = ⟨#[]⟩ := by unfold printE; rw [hm]; rfl
    have e2 : (if false = true then (0 : Int) else 140) = 140 := rfl
    rw [e1, e2]
    clear CB1 e1 e2 hm HJ3
    have CLw := Lib.hid (CL.out w3 HB3.out)
    clear CL
    cases X with
    | none =>
      unfold ParseJ jobV errJ at CLw
      dsimp only at CLw
      clear CP2 CB2 HPM
      go_wp2_with fail
      refine CLw.out.mono ?_
      rintro e w6 ⟨rfl, hb6⟩
      have HB6 := Lib.hid (HB3.out.trans (hb6.mono HB3.out.size))
      clear hb6 CLw
      obtain ⟨w7, hwq⟩ : ∃ w7, w7 = w6.alloc (.cells #[.int .i64 0, .int .i64 0, .string ⟨#[]⟩] 24) := ⟨_, rfl⟩
      have hbq : Below w6.heap.size w6 w7 := by rw [hwq]; exact (Below.refl _ _).alloc (Nat.le_refl _) _
      have HNb7 : Hid (Blk w7 w6.heap.size 24 #[.int .i64 0, .int .i64 0, .string ⟨#[]⟩]) := by rw [hwq]; exact Blk.new _ _ _
      have HB7 := Lib.hid (HB6.out.trans (hbq.mono HB6.out.size))
      clear hbq
      go_upto_region 8 with fail
      rw [← hwq]
      clear hwq
      generalize w6.heap.size = b7 at *
      have c0 : w7.cell? ⟨b7, 0, none⟩ = some (.int .i64 0) := HNb7.out.cell 0
      have c1 : w7.cell? ⟨b7, 1, none⟩ = some (.int .i64 0) := HNb7.out.cell 1
      have c2 : w7.cell? ⟨b7, 2, none⟩ = some (.string ⟨#[]⟩) := HNb7.out.cell 2
      go_wp2_with fail
      go_ret
      exact ⟨by first | rfl | decide | simp, HB7.out⟩
    | some z =>
      obtain ⟨k2, h2, s2⟩ := z
      unfold ParseJ jobV errJ at CLw
      dsimp only at CLw
      have hm2 := HPM.out k2 h2 s2 rfl
      have CPx := Lib.hid (fun wx hb => CP2.out wx hb k2 h2 s2 rfl)
      have CBx := Lib.hid (fun wx hb => CB2.out wx hb k2 h2 s2 rfl)
      have e1 : printE k2 h2 s2 = printX k2 h2 s2 := by unfold printE; rw [hm2]; rfl
      have e2 : (if true = true then (0 : Int) else 140) = 0 := rfl
      rw [e1, hm2, e2] at CPx
      unfold ParseJ jobV errJ at CBx
      dsimp only at CBx
      clear CP2 CB2 HPM e1 e2 hm2
      generalize printX k2 h2 s2 = P2 at *
      go_wp2_with fail
      refine CLw.out.mono ?_
      rintro e w6 ⟨rfl, hb6⟩
      have HB6 := Lib.hid (HB3.out.trans (hb6.mono HB3.out.size))
      clear hb6 CLw
      obtain ⟨w7, hwq⟩ : ∃ w7, w7 = w6.alloc (.cells #[.int .i64 k2, .int .i64 h2, .string s2] 24) := ⟨_, rfl⟩
      have hbq : Below w6.heap.size w6 w7 := by rw [hwq]; exact (Below.refl _ _).alloc (Nat.le_refl _) _
      have HNb7 : Hid (Blk w7 w6.heap.size 24 #[.int .i64 k2, .int .i64 h2, .string s2]) := by rw [hwq]; exact Blk.new _ _ _
      have HB7 := Lib.hid (HB6.out.trans (hbq.mono HB6.out.size))
      clear hbq
      go_upto_region 8 with fail
      rw [← hwq]
      clear hwq
      generalize w6.heap.size = b7 at *
      have c0 : w7.cell? ⟨b7, 0, none⟩ = some (.int .i64 k2) := HNb7.out.cell 0
      have c1 : w7.cell? ⟨b7, 1, none⟩ = some (.int .i64 h2) := HNb7.out.cell 1
      have c2 : w7.cell? ⟨b7, 2, none⟩ = some (.string s2) := HNb7.out.cell 2
      have CPy := Lib.hid (CPx.out w7 HB7.out)
      clear CPx HB6
      go_wp2_with fail
      refine CPy.out.mono ?_
      rintro e w8 ⟨rfl, hb8⟩
      have HNb7 := Lib.hid (Blk.below HNb7.out hb8 HNb7.out.lt)
      have HB8 := Lib.hid (HB7.out.trans (hb8.mono HB7.out.size))
      have CBy := Lib.hid (CBx.out w8 HB8.out)
      clear hb8 CPy CBx HB7 c0 c1 c2
      go_wp2_with fail
      refine CBy.out.mono ?_
      rintro e w9 ⟨rfl, hb9⟩
      have HNb7 := Lib.hid (Blk.below HNb7.out hb9 HNb7.out.lt)
      have HB9 := Lib.hid (HB8.out.trans (hb9.mono HB8.out.size))
      clear hb9 CBy HB8
      obtain ⟨w10, hwq⟩ : ∃ w10, w10 = w9.alloc (.cells #[.int .i64 k2, .int .i64 h2, .string s2] 24) := ⟨_, rfl⟩
      have hbq : Below w9.heap.size w9 w10 := by rw [hwq]; exact (Below.refl _ _).alloc (Nat.le_refl _) _
      have HNb10 : Hid (Blk w10 w9.heap.size 24 #[.int .i64 k2, .int .i64 h2, .string s2]) := by rw [hwq]; exact Blk.new _ _ _
      have HB10 := Lib.hid (HB9.out.trans (hbq.mono HB9.out.size))
      have HNb7 := Lib.hid (Blk.below HNb7.out hbq HNb7.out.lt)
      clear hbq
      go_upto_region 12 with fail
      rw [← hwq]
      clear hwq
      generalize w9.heap.size = b10 at *
      have c0 : w10.cell? ⟨b10, 0, none⟩ = some (.int .i64 k2) := HNb10.out.cell 0
      have c1 : w10.cell? ⟨b10, 1, none⟩ = some (.int .i64 h2) := HNb10.out.cell 1
      have c2 : w10.cell? ⟨b10, 2, none⟩ = some (.string s2) := HNb10.out.cell 2
      have d0 : w10.cell? ⟨b7, 0, none⟩ = some (.int .i64 k2) := HNb7.out.cell 0
      have d1 : w10.cell? ⟨b7, 1, none⟩ = some (.int .i64 h2) := HNb7.out.cell 1
      have d2 : w10.cell? ⟨b7, 2, none⟩ = some (.string s2) := HNb7.out.cell 2
      go_wp2_with fail
      go_ret
      exact ⟨by first | rfl | decide | simp, HB10.out⟩
  | true =>
    have e1 : printE k h s = printX k h s := by unfold printE; rw [hm]; rfl
    have e2 : (if true = true then (0 : Int) else 140) = 0 := rfl
    have CBw := Lib.hid (CB1.out w3 HB3.out hm)
    unfold ParseJ jobV errJ at CBw
    dsimp only at CBw
    rw [e1, e2]
    clear CB1 e1 e2 hm
    generalize printX k h s = P at *
    go_wp2_with fail
    refine CBw.out.mono ?_
    rintro e w4 ⟨rfl, hb4⟩
    have HJ3 := Lib.hid (Blk.below HJ3.out hb4 HJ3.out.lt)
    have HB4 := Lib.hid (HB3.out.trans (hb4.mono HB3.out.size))
    clear hb4 CBw HB3
    obtain ⟨w5, hwq⟩ : ∃ w5, w5 = w4.alloc (.cells #[.int .i64 k, .int .i64 h, .string s] 24) := ⟨_, rfl⟩
    have hbq : Below w4.heap.size w4 w5 := by rw [hwq]; exact (Below.refl _ _).alloc (Nat.le_refl _) _
    have HNb5 : Hid (Blk w5 w4.heap.size 24 #[.int .i64 k, .int .i64 h, .string s]) := by rw [hwq]; exact Blk.new _ _ _
    have HB5 := Lib.hid (HB4.out.trans (hbq.mono HB4.out.size))
    have HJ3 := Lib.hid (Blk.below HJ3.out hbq HJ3.out.lt)
    clear hbq
    go_upto_region 5 with fail
    rw [← hwq]
    clear hwq
    generalize w4.heap.size = b5 at *
    have c0 : w5.cell? ⟨b5, 0, none⟩ = some (.int .i64 k) := HNb5.out.cell 0
    have c1 : w5.cell? ⟨b5, 1, none⟩ = some (.int .i64 h) := HNb5.out.cell 1
    have c2 : w5.cell? ⟨b5, 2, none⟩ = some (.string s) := HNb5.out.cell 2
    have d0 : w5.cell? ⟨W.heap.size, 0, none⟩ = some (.int .i64 k) := HJ3.out.cell 0
    have d1 : w5.cell? ⟨W.heap.size, 1, none⟩ = some (.int .i64 h) := HJ3.out.cell 1
    have d2 : w5.cell? ⟨W.heap.size, 2, none⟩ = some (.string s) := HJ3.out.cell 2
    go_upto_region 7 with fail
    clear c0 c1 c2 d0 d1 d2 HNb5 HJ3 HB4
    have CLw := Lib.hid (CL.out w5 HB5.out)
    clear CL
    cases X with
    | none =>
      unfold ParseJ jobV errJ at CLw
      dsimp only at CLw
      clear CP2 CB2 HPM
      go_wp2_with fail
      refine CLw.out.mono ?_
      rintro e w6 ⟨rfl, hb6⟩
      have HB6 := Lib.hid (HB5.out.trans (hb6.mono HB5.out.size))
      clear hb6 CLw
      obtain ⟨w7, hwq⟩ : ∃ w7, w7 = w6.alloc (.cells #[.int .i64 0, .int .i64 0, .string ⟨#[]⟩] 24) := ⟨_, rfl⟩
      have hbq : Below w6.heap.size w6 w7 := by rw [hwq]; exact (Below.refl _ _).alloc (Nat.le_refl _) _
      have HNb7 : Hid (Blk w7 w6.heap.size 24 #[.int .i64 0, .int .i64 0, .string ⟨#[]⟩]) := by rw [hwq]; exact Blk.new _ _ _
      have HB7 := Lib.hid (HB6.out.trans (hbq.mono HB6.out.size))
      clear hbq
      go_upto_region 8 with fail
      rw [← hwq]
      clear hwq
      generalize w6.heap.size = b7 at *
      have c0 : w7.cell? ⟨b7, 0, none⟩ = some (.int .i64 0) := HNb7.out.cell 0
      have c1 : w7.cell? ⟨b7, 1, none⟩ = some (.int .i64 0) := HNb7.out.cell 1
      have c2 : w7.cell? ⟨b7, 2, none⟩ = some (.string ⟨#[]⟩) := HNb7.out.cell 2
      go_wp2_with fail
      go_ret
      exact ⟨by first | rfl | decide | simp, HB7.out⟩
    | some z =>
      obtain ⟨k2, h2, s2⟩ := z
      unfold ParseJ jobV errJ at CLw
      dsimp only at CLw
      have hm2 := HPM.out k2 h2 s2 rfl
      have CPx := Lib.hid (fun wx hb => CP2.out wx hb k2 h2 s2 rfl)
      have CBx := Lib.hid (fun wx hb => CB2.out wx hb k2 h2 s2 rfl)
      have e1 : printE k2 h2 s2 = printX k2 h2 s2 := by unfold printE; rw [hm2]; rfl
      have e2 : (if true = true then (0 : Int) else 140) = 0 := rfl
      rw [e1, hm2, e2] at CPx
      unfold ParseJ jobV errJ at CBx
      dsimp only at CBx
      clear CP2 CB2 HPM e1 e2 hm2
      generalize printX k2 h2 s2 = P2 at *
      go_wp2_with fail
      refine CLw.out.mono ?_
      rintro e w6 ⟨rfl, hb6⟩
      have HB6 := Lib.hid (HB5.out.trans (hb6.mono HB5.out.size))
      clear hb6 CLw
      obtain ⟨w7, hwq⟩ : ∃ w7, w7 = w6.alloc (.cells #[.int .i64 k2, .int .i64 h2, .string s2] 24) := ⟨_, rfl⟩
      have hbq : Below w6.heap.size w6 w7 := by rw [hwq]; exact (Below.refl _ _).alloc (Nat.le_refl _) _
      have HNb7 : Hid (Blk w7 w6.heap.size 24 #[.int .i64 k2, .int .i64 h2, .string s2]) := by rw [hwq]; exact Blk.new _ _ _
      have HB7 := Lib.hid (HB6.out.trans (hbq.mono HB6.out.size))
      clear hbq
      go_upto_region 8 with fail
      rw [← hwq]
      clear hwq
      generalize w6.heap.size = b7 at *
      have c0 : w7.cell? ⟨b7, 0, none⟩ = some (.int .i64 k2) := HNb7.out.cell 0
      have c1 : w7.cell? ⟨b7, 1, none⟩ = some (.int .i64 h2) := HNb7.out.cell 1
      have c2 : w7.cell? ⟨b7, 2, none⟩ = some (.string s2) := HNb7.out.cell 2
      have CPy := Lib.hid (CPx.out w7 HB7.out)
      clear CPx HB6
      go_wp2_with fail
      refine CPy.out.mono ?_
      rintro e w8 ⟨rfl, hb8⟩
      have HNb7 := Lib.hid (Blk.below HNb7.out hb8 HNb7.out.lt)
      have HB8 := Lib.hid (HB7.out.trans (hb8.mono HB7.out.size))
      have CBy := Lib.hid (CBx.out w8 HB8.out)
      clear hb8 CPy CBx HB7 c0 c1 c2
      go_wp2_with fail
      refine CBy.out.mono ?_
      rintro e w9 ⟨rfl, hb9⟩
      have HNb7 := Lib.hid (Blk.below HNb7.out hb9 HNb7.out.lt)
      have HB9 := Lib.hid (HB8.out.trans (hb9.mono HB8.out.size))
      clear hb9 CBy HB8
      obtain ⟨w10, hwq⟩ : ∃ w10, w10 = w9.alloc (.cells #[.int .i64 k2, .int .i64 h2, .string s2] 24) := ⟨_, rfl⟩
      have hbq : Below w9.heap.size w9 w10 := by rw [hwq]; exact (Below.refl _ _).alloc (Nat.le_refl _) _
      have HNb10 : Hid (Blk w10 w9.heap.size 24 #[.int .i64 k2, .int .i64 h2, .string s2]) := by rw [hwq]; exact Blk.new _ _ _
      have HB10 := Lib.hid (HB9.out.trans (hbq.mono HB9.out.size))
      have HNb7 := Lib.hid (Blk.below HNb7.out hbq HNb7.out.lt)
      clear hbq
      go_upto_region 12 with fail
      rw [← hwq]
      clear hwq
      generalize w9.heap.size = b10 at *
      have c0 : w10.cell? ⟨b10, 0, none⟩ = some (.int .i64 k2) := HNb10.out.cell 0
      have c1 : w10.cell? ⟨b10, 1, none⟩ = some (.int .i64 h2) := HNb10.out.cell 1
      have c2 : w10.cell? ⟨b10, 2, none⟩ = some (.string s2) := HNb10.out.cell 2
      have d0 : w10.cell? ⟨b7, 0, none⟩ = some (.int .i64 k2) := HNb7.out.cell 0
      have d1 : w10.cell? ⟨b7, 1, none⟩ = some (.int .i64 h2) := HNb7.out.cell 1
      have d2 : w10.cell? ⟨b7, 2, none⟩ = some (.string s2) := HNb7.out.cell 2
      go_wp2_with fail
      go_ret
      exact ⟨by first | rfl | decide | simp, HB10.out⟩
end Go.Proofs.YtciogfpejenedaaDoor
