/- The document's answer: how two versions' parts compare. -/
import Derived.Test.YtbfpljlgjpmmmaaDoorRefF
namespace Go.Proofs.YtbfpljlgjpmmmaaDoor
set_option linter.unusedSimpArgs false
set_option linter.unusedVariables false
open Go.RowKit

theorem deb_zero2 (a : List UInt8) : cmpDeb a [48] = cmpDeb a [] := by rw [ord_deb.anti [48] a, ord_deb.anti [] a, deb_zero]
theorem some_cons (c : UInt8) (r : List UInt8) : someI (c :: r) = 1 := by unfold someI; simp
theorem rel_none {a b : List UInt8} (h : a = [] ∨ b = []) : cmpRel 1 a b = cmpI ((a.length : Int) - (b.length : Int)) 0 := by
  unfold cmpRel
  rw [if_pos rfl]
  cases a with
  | nil => cases b with
    | nil => rw [rpm_nil]; rfl
    | cons c r =>
      rw [some_cons, show someI [] = 0 from rfl, thenC_ne (by decide), show cmpI 0 1 = -1 from rfl]
      unfold cmpI
      simp only [List.length_cons, List.length_nil]
      rw [if_pos (by omega)]
  | cons c r => cases b with
    | nil =>
      rw [some_cons, show someI [] = 0 from rfl, thenC_ne (by decide), show cmpI 1 0 = 1 from rfl]
      unfold cmpI
      simp only [List.length_cons, List.length_nil]
      rw [if_neg (by omega), if_pos (by omega)]
    | cons c' r' => rcases h with h | h <;> cases h
theorem rel_some {a b : List UInt8} (h : a ≠ []) (h' : b ≠ []) : cmpRel 1 a b = cmpRpm a b := by
  unfold cmpRel someI
  rw [if_pos rfl, if_neg h, if_neg h']
  rfl

theorem ret_two {a b c d : Int} (h : c = a) (h' : d = b) : Ending.returned (.tuple #[.int .i64 a, .int .i64 b]) = Ending.returned (.tuple #[.int .i64 c, .int .i64 d]) := by rw [h, h']

set_option maxHeartbeats 8000000 in
set_option maxRecDepth 1000000 in
theorem refParts_deb (e1 v1 r1 e2 v2 r2 : ByteArray) (s1 : e1.size ≤ maxLen) (s2 : e2.size ≤ maxLen) (s3 : v1.size ≤ maxLen) (s4 : v2.size ≤ maxLen) (s5 : r1.size ≤ maxLen) (s6 : r2.size ≤ maxLen) (w0 : World) :
    Calls Tryd.prog 29 #[.int .i64 2, .agg #[.string e1, .string v1, .string r1], .agg #[.string e2, .string v2, .string r2]] w0 fun e w => e = .returned (.tuple #[.int .i64 (thenC (cmpNum e1.data.toList e2.data.toList) (cmpTxt 2 v1.data.toList v2.data.toList)), .int .i64 (cmpRel 2 r1.data.toList r2.data.toList)]) ∧ Below w0.heap.size w0 w := by
  have CN := Lib.hid (fun w => refNumber_any e1 e2 s1 s2 w)
  have CT := Lib.hid (fun w => refDeb_any v1 v2 s3 s4 w)
  unfold PostD at CT
  have HT := Lib.hid (show cmpTxt 2 v1.data.toList v2.data.toList = cmpDeb v1.data.toList v2.data.toList from rfl)
  rw [HT.out]
  clear HT
  generalize cmpNum e1.data.toList e2.data.toList = c at *
  generalize cmpDeb v1.data.toList v2.data.toList = d at *
  clear s1 s2 s3 s4
  obtain ⟨x1, hx1, CX1⟩ : ∃ x1 : ByteArray, x1 = (if r1.size = 0 then ⟨#[48]⟩ else r1) ∧ True := ⟨_, rfl, trivial⟩
  obtain ⟨x2, hx2, CX2⟩ : ∃ x2 : ByteArray, x2 = (if r2.size = 0 then ⟨#[48]⟩ else r2) ∧ True := ⟨_, rfl, trivial⟩
  have l1 : x1.size ≤ maxLen := by rw [hx1]; split; · decide
                                   · exact s5
  have l2 : x2.size ≤ maxLen := by rw [hx2]; split; · decide
                                   · exact s6
  have CR := Lib.hid (fun w => refDeb_any x1 x2 l1 l2 w)
  unfold PostD at CR
  have HR : cmpDeb x1.data.toList x2.data.toList = cmpRel 2 r1.data.toList r2.data.toList := by
    show _ = cmpDeb _ _
    have z1 : ∀ l, cmpDeb x1.data.toList l = cmpDeb r1.data.toList l := fun l => by
      rw [hx1]; split
      · rename_i h; rw [list_nil h]; exact deb_zero l
      · rfl
    have z2 : ∀ l, cmpDeb l x2.data.toList = cmpDeb l r2.data.toList := fun l => by
      rw [hx2]; split
      · rename_i h; rw [list_nil h]; exact deb_zero2 l
      · rfl
    rw [z1, z2]
  rw [HR] at CR
  generalize cmpRel 2 r1.data.toList r2.data.toList = f at *
  clear HR l1 l2 s5 s6 CX1 CX2
  by_cases y1 : r1.size = 0 <;> by_cases y2 : r2.size = 0
  · rw [if_pos y1] at hx1
    rw [hx1] at CR
    clear hx1
    have y1a : r1.toList.isEmpty = true := by rw [ByteArray.toList_eq, list_nil y1]; rfl
    have y1b : r1.toList = [] := by rw [ByteArray.toList_eq, list_nil y1]
    rw [if_pos y2] at hx2
    rw [hx2] at CR
    clear hx2
    have y2a : r2.toList.isEmpty = true := by rw [ByteArray.toList_eq, list_nil y2]; rfl
    have y2b : r2.toList = [] := by rw [ByteArray.toList_eq, list_nil y2]
    by_cases h0 : c = 0
    · subst h0
      go_enter Tryd.func29, Tryd.ntmps29
      go_wp2_with fail
      refine (CN.out _).mono ?_
      rintro e' w1 ⟨rfl, rfl⟩
      have K1 := Lib.hid ((Blk.new w0 24 #[Value.string e1, .string v1, .string r1]).alloc (.cells #[.string e2, .string v2, .string r2] 24))
      have K2 := Lib.hid (Blk.new' (w := w0.alloc (.cells #[.string e1, .string v1, .string r1] 24)) (g := w0.heap.size + 1) (t := 24) (cs := #[Value.string e2, .string v2, .string r2]) (by simp))
      have HB : Hid (Below w0.heap.size w0 ((w0.alloc (.cells #[.string e1, .string v1, .string r1] 24)).alloc (.cells #[.string e2, .string v2, .string r2] 24))) := ((Below.refl _ _).alloc (Nat.le_refl _) _).alloc (by simp) _
      generalize ((w0.alloc (.cells #[.string e1, .string v1, .string r1] 24)).alloc (.cells #[.string e2, .string v2, .string r2] 24)) = w1 at *
      have c10 : w1.cell? ⟨w0.heap.size, 0, none⟩ = some (.string e1) := K1.out.cell 0
      have c11 : w1.cell? ⟨w0.heap.size, 1, none⟩ = some (.string v1) := K1.out.cell 1
      have c12 : w1.cell? ⟨w0.heap.size, 2, none⟩ = some (.string r1) := K1.out.cell 2
      have c20 : w1.cell? ⟨w0.heap.size + 1, 0, none⟩ = some (.string e2) := K2.out.cell 0
      have c21 : w1.cell? ⟨w0.heap.size + 1, 1, none⟩ = some (.string v2) := K2.out.cell 1
      have c22 : w1.cell? ⟨w0.heap.size + 1, 2, none⟩ = some (.string r2) := K2.out.cell 2
      have hl1 := K1.out.lt
      have hl2 := K2.out.lt
      go_wp2_with fail
      refine (CT.out _).mono ?_
      rintro e' w2 ⟨rfl, hb⟩
      clear c10 c11 c12 c20 c21 c22 hl1 hl2
      have K1 := Lib.hid (K1.out.below hb K1.out.lt)
      have K2 := Lib.hid (K2.out.below hb K2.out.lt)
      have HB := Lib.hid (HB.out.trans (hb.mono HB.out.size))
      clear hb
      have c10 : w2.cell? ⟨w0.heap.size, 0, none⟩ = some (.string e1) := K1.out.cell 0
      have c11 : w2.cell? ⟨w0.heap.size, 1, none⟩ = some (.string v1) := K1.out.cell 1
      have c12 : w2.cell? ⟨w0.heap.size, 2, none⟩ = some (.string r1) := K1.out.cell 2
      have c20 : w2.cell? ⟨w0.heap.size + 1, 0, none⟩ = some (.string e2) := K2.out.cell 0
      have c21 : w2.cell? ⟨w0.heap.size + 1, 1, none⟩ = some (.string v2) := K2.out.cell 1
      have c22 : w2.cell? ⟨w0.heap.size + 1, 2, none⟩ = some (.string r2) := K2.out.cell 2
      have hl1 := K1.out.lt
      have hl2 := K2.out.lt
      go_wp2_with fail
      refine (CR.out _).mono ?_
      rintro e' w3 ⟨rfl, hb⟩
      clear c10 c11 c12 c20 c21 c22 hl1 hl2
      have K1 := Lib.hid (K1.out.below hb K1.out.lt)
      have K2 := Lib.hid (K2.out.below hb K2.out.lt)
      have HB := Lib.hid (HB.out.trans (hb.mono HB.out.size))
      clear hb
      go_wp2_with fail
      go_ret2
      exact ⟨rfl, HB.out⟩
    · have t1 : (c == 0) = false := by simpa using h0
      have t2 : (c != 0) = true := by simpa using h0
      have HC := Lib.hid (thenC_ne h0 d)
      clear h0
      go_enter Tryd.func29, Tryd.ntmps29
      go_wp2_with fail
      refine (CN.out _).mono ?_
      rintro e' w1 ⟨rfl, rfl⟩
      have K1 := Lib.hid ((Blk.new w0 24 #[Value.string e1, .string v1, .string r1]).alloc (.cells #[.string e2, .string v2, .string r2] 24))
      have K2 := Lib.hid (Blk.new' (w := w0.alloc (.cells #[.string e1, .string v1, .string r1] 24)) (g := w0.heap.size + 1) (t := 24) (cs := #[Value.string e2, .string v2, .string r2]) (by simp))
      have HB : Hid (Below w0.heap.size w0 ((w0.alloc (.cells #[.string e1, .string v1, .string r1] 24)).alloc (.cells #[.string e2, .string v2, .string r2] 24))) := ((Below.refl _ _).alloc (Nat.le_refl _) _).alloc (by simp) _
      generalize ((w0.alloc (.cells #[.string e1, .string v1, .string r1] 24)).alloc (.cells #[.string e2, .string v2, .string r2] 24)) = w1 at *
      have c10 : w1.cell? ⟨w0.heap.size, 0, none⟩ = some (.string e1) := K1.out.cell 0
      have c11 : w1.cell? ⟨w0.heap.size, 1, none⟩ = some (.string v1) := K1.out.cell 1
      have c12 : w1.cell? ⟨w0.heap.size, 2, none⟩ = some (.string r1) := K1.out.cell 2
      have c20 : w1.cell? ⟨w0.heap.size + 1, 0, none⟩ = some (.string e2) := K2.out.cell 0
      have c21 : w1.cell? ⟨w0.heap.size + 1, 1, none⟩ = some (.string v2) := K2.out.cell 1
      have c22 : w1.cell? ⟨w0.heap.size + 1, 2, none⟩ = some (.string r2) := K2.out.cell 2
      have hl1 := K1.out.lt
      have hl2 := K2.out.lt
      go_wp2_with fail
      refine (CR.out _).mono ?_
      rintro e' w3 ⟨rfl, hb⟩
      clear c10 c11 c12 c20 c21 c22 hl1 hl2
      have K1 := Lib.hid (K1.out.below hb K1.out.lt)
      have K2 := Lib.hid (K2.out.below hb K2.out.lt)
      have HB := Lib.hid (HB.out.trans (hb.mono HB.out.size))
      clear hb
      go_wp2_with fail
      go_ret2
      exact ⟨by rw [HC.out]; rfl, HB.out⟩
  · rw [if_pos y1] at hx1
    rw [hx1] at CR
    clear hx1
    have y1a : r1.toList.isEmpty = true := by rw [ByteArray.toList_eq, list_nil y1]; rfl
    have y1b : r1.toList = [] := by rw [ByteArray.toList_eq, list_nil y1]
    rw [if_neg y2] at hx2
    rw [hx2] at CR
    clear hx2
    obtain ⟨y2a, y2b, y2c⟩ := blank_of y2
    by_cases h0 : c = 0
    · subst h0
      go_enter Tryd.func29, Tryd.ntmps29
      go_wp2_with fail
      refine (CN.out _).mono ?_
      rintro e' w1 ⟨rfl, rfl⟩
      have K1 := Lib.hid ((Blk.new w0 24 #[Value.string e1, .string v1, .string r1]).alloc (.cells #[.string e2, .string v2, .string r2] 24))
      have K2 := Lib.hid (Blk.new' (w := w0.alloc (.cells #[.string e1, .string v1, .string r1] 24)) (g := w0.heap.size + 1) (t := 24) (cs := #[Value.string e2, .string v2, .string r2]) (by simp))
      have HB : Hid (Below w0.heap.size w0 ((w0.alloc (.cells #[.string e1, .string v1, .string r1] 24)).alloc (.cells #[.string e2, .string v2, .string r2] 24))) := ((Below.refl _ _).alloc (Nat.le_refl _) _).alloc (by simp) _
      generalize ((w0.alloc (.cells #[.string e1, .string v1, .string r1] 24)).alloc (.cells #[.string e2, .string v2, .string r2] 24)) = w1 at *
      have c10 : w1.cell? ⟨w0.heap.size, 0, none⟩ = some (.string e1) := K1.out.cell 0
      have c11 : w1.cell? ⟨w0.heap.size, 1, none⟩ = some (.string v1) := K1.out.cell 1
      have c12 : w1.cell? ⟨w0.heap.size, 2, none⟩ = some (.string r1) := K1.out.cell 2
      have c20 : w1.cell? ⟨w0.heap.size + 1, 0, none⟩ = some (.string e2) := K2.out.cell 0
      have c21 : w1.cell? ⟨w0.heap.size + 1, 1, none⟩ = some (.string v2) := K2.out.cell 1
      have c22 : w1.cell? ⟨w0.heap.size + 1, 2, none⟩ = some (.string r2) := K2.out.cell 2
      have hl1 := K1.out.lt
      have hl2 := K2.out.lt
      go_wp2_with fail
      refine (CT.out _).mono ?_
      rintro e' w2 ⟨rfl, hb⟩
      clear c10 c11 c12 c20 c21 c22 hl1 hl2
      have K1 := Lib.hid (K1.out.below hb K1.out.lt)
      have K2 := Lib.hid (K2.out.below hb K2.out.lt)
      have HB := Lib.hid (HB.out.trans (hb.mono HB.out.size))
      clear hb
      have c10 : w2.cell? ⟨w0.heap.size, 0, none⟩ = some (.string e1) := K1.out.cell 0
      have c11 : w2.cell? ⟨w0.heap.size, 1, none⟩ = some (.string v1) := K1.out.cell 1
      have c12 : w2.cell? ⟨w0.heap.size, 2, none⟩ = some (.string r1) := K1.out.cell 2
      have c20 : w2.cell? ⟨w0.heap.size + 1, 0, none⟩ = some (.string e2) := K2.out.cell 0
      have c21 : w2.cell? ⟨w0.heap.size + 1, 1, none⟩ = some (.string v2) := K2.out.cell 1
      have c22 : w2.cell? ⟨w0.heap.size + 1, 2, none⟩ = some (.string r2) := K2.out.cell 2
      have hl1 := K1.out.lt
      have hl2 := K2.out.lt
      go_wp2_with fail
      refine (CR.out _).mono ?_
      rintro e' w3 ⟨rfl, hb⟩
      clear c10 c11 c12 c20 c21 c22 hl1 hl2
      have K1 := Lib.hid (K1.out.below hb K1.out.lt)
      have K2 := Lib.hid (K2.out.below hb K2.out.lt)
      have HB := Lib.hid (HB.out.trans (hb.mono HB.out.size))
      clear hb
      go_wp2_with fail
      go_ret2
      exact ⟨rfl, HB.out⟩
    · have t1 : (c == 0) = false := by simpa using h0
      have t2 : (c != 0) = true := by simpa using h0
      have HC := Lib.hid (thenC_ne h0 d)
      clear h0
      go_enter Tryd.func29, Tryd.ntmps29
      go_wp2_with fail
      refine (CN.out _).mono ?_
      rintro e' w1 ⟨rfl, rfl⟩
      have K1 := Lib.hid ((Blk.new w0 24 #[Value.string e1, .string v1, .string r1]).alloc (.cells #[.string e2, .string v2, .string r2] 24))
      have K2 := Lib.hid (Blk.new' (w := w0.alloc (.cells #[.string e1, .string v1, .string r1] 24)) (g := w0.heap.size + 1) (t := 24) (cs := #[Value.string e2, .string v2, .string r2]) (by simp))
      have HB : Hid (Below w0.heap.size w0 ((w0.alloc (.cells #[.string e1, .string v1, .string r1] 24)).alloc (.cells #[.string e2, .string v2, .string r2] 24))) := ((Below.refl _ _).alloc (Nat.le_refl _) _).alloc (by simp) _
      generalize ((w0.alloc (.cells #[.string e1, .string v1, .string r1] 24)).alloc (.cells #[.string e2, .string v2, .string r2] 24)) = w1 at *
      have c10 : w1.cell? ⟨w0.heap.size, 0, none⟩ = some (.string e1) := K1.out.cell 0
      have c11 : w1.cell? ⟨w0.heap.size, 1, none⟩ = some (.string v1) := K1.out.cell 1
      have c12 : w1.cell? ⟨w0.heap.size, 2, none⟩ = some (.string r1) := K1.out.cell 2
      have c20 : w1.cell? ⟨w0.heap.size + 1, 0, none⟩ = some (.string e2) := K2.out.cell 0
      have c21 : w1.cell? ⟨w0.heap.size + 1, 1, none⟩ = some (.string v2) := K2.out.cell 1
      have c22 : w1.cell? ⟨w0.heap.size + 1, 2, none⟩ = some (.string r2) := K2.out.cell 2
      have hl1 := K1.out.lt
      have hl2 := K2.out.lt
      go_wp2_with fail
      refine (CR.out _).mono ?_
      rintro e' w3 ⟨rfl, hb⟩
      clear c10 c11 c12 c20 c21 c22 hl1 hl2
      have K1 := Lib.hid (K1.out.below hb K1.out.lt)
      have K2 := Lib.hid (K2.out.below hb K2.out.lt)
      have HB := Lib.hid (HB.out.trans (hb.mono HB.out.size))
      clear hb
      go_wp2_with fail
      go_ret2
      exact ⟨by rw [HC.out]; rfl, HB.out⟩
  · rw [if_neg y1] at hx1
    rw [hx1] at CR
    clear hx1
    obtain ⟨y1a, y1b, y1c⟩ := blank_of y1
    rw [if_pos y2] at hx2
    rw [hx2] at CR
    clear hx2
    have y2a : r2.toList.isEmpty = true := by rw [ByteArray.toList_eq, list_nil y2]; rfl
    have y2b : r2.toList = [] := by rw [ByteArray.toList_eq, list_nil y2]
    by_cases h0 : c = 0
    · subst h0
      go_enter Tryd.func29, Tryd.ntmps29
      go_wp2_with fail
      refine (CN.out _).mono ?_
      rintro e' w1 ⟨rfl, rfl⟩
      have K1 := Lib.hid ((Blk.new w0 24 #[Value.string e1, .string v1, .string r1]).alloc (.cells #[.string e2, .string v2, .string r2] 24))
      have K2 := Lib.hid (Blk.new' (w := w0.alloc (.cells #[.string e1, .string v1, .string r1] 24)) (g := w0.heap.size + 1) (t := 24) (cs := #[Value.string e2, .string v2, .string r2]) (by simp))
      have HB : Hid (Below w0.heap.size w0 ((w0.alloc (.cells #[.string e1, .string v1, .string r1] 24)).alloc (.cells #[.string e2, .string v2, .string r2] 24))) := ((Below.refl _ _).alloc (Nat.le_refl _) _).alloc (by simp) _
      generalize ((w0.alloc (.cells #[.string e1, .string v1, .string r1] 24)).alloc (.cells #[.string e2, .string v2, .string r2] 24)) = w1 at *
      have c10 : w1.cell? ⟨w0.heap.size, 0, none⟩ = some (.string e1) := K1.out.cell 0
      have c11 : w1.cell? ⟨w0.heap.size, 1, none⟩ = some (.string v1) := K1.out.cell 1
      have c12 : w1.cell? ⟨w0.heap.size, 2, none⟩ = some (.string r1) := K1.out.cell 2
      have c20 : w1.cell? ⟨w0.heap.size + 1, 0, none⟩ = some (.string e2) := K2.out.cell 0
      have c21 : w1.cell? ⟨w0.heap.size + 1, 1, none⟩ = some (.string v2) := K2.out.cell 1
      have c22 : w1.cell? ⟨w0.heap.size + 1, 2, none⟩ = some (.string r2) := K2.out.cell 2
      have hl1 := K1.out.lt
      have hl2 := K2.out.lt
      go_wp2_with fail
      refine (CT.out _).mono ?_
      rintro e' w2 ⟨rfl, hb⟩
      clear c10 c11 c12 c20 c21 c22 hl1 hl2
      have K1 := Lib.hid (K1.out.below hb K1.out.lt)
      have K2 := Lib.hid (K2.out.below hb K2.out.lt)
      have HB := Lib.hid (HB.out.trans (hb.mono HB.out.size))
      clear hb
      have c10 : w2.cell? ⟨w0.heap.size, 0, none⟩ = some (.string e1) := K1.out.cell 0
      have c11 : w2.cell? ⟨w0.heap.size, 1, none⟩ = some (.string v1) := K1.out.cell 1
      have c12 : w2.cell? ⟨w0.heap.size, 2, none⟩ = some (.string r1) := K1.out.cell 2
      have c20 : w2.cell? ⟨w0.heap.size + 1, 0, none⟩ = some (.string e2) := K2.out.cell 0
      have c21 : w2.cell? ⟨w0.heap.size + 1, 1, none⟩ = some (.string v2) := K2.out.cell 1
      have c22 : w2.cell? ⟨w0.heap.size + 1, 2, none⟩ = some (.string r2) := K2.out.cell 2
      have hl1 := K1.out.lt
      have hl2 := K2.out.lt
      go_wp2_with fail
      refine (CR.out _).mono ?_
      rintro e' w3 ⟨rfl, hb⟩
      clear c10 c11 c12 c20 c21 c22 hl1 hl2
      have K1 := Lib.hid (K1.out.below hb K1.out.lt)
      have K2 := Lib.hid (K2.out.below hb K2.out.lt)
      have HB := Lib.hid (HB.out.trans (hb.mono HB.out.size))
      clear hb
      go_wp2_with fail
      go_ret2
      exact ⟨rfl, HB.out⟩
    · have t1 : (c == 0) = false := by simpa using h0
      have t2 : (c != 0) = true := by simpa using h0
      have HC := Lib.hid (thenC_ne h0 d)
      clear h0
      go_enter Tryd.func29, Tryd.ntmps29
      go_wp2_with fail
      refine (CN.out _).mono ?_
      rintro e' w1 ⟨rfl, rfl⟩
      have K1 := Lib.hid ((Blk.new w0 24 #[Value.string e1, .string v1, .string r1]).alloc (.cells #[.string e2, .string v2, .string r2] 24))
      have K2 := Lib.hid (Blk.new' (w := w0.alloc (.cells #[.string e1, .string v1, .string r1] 24)) (g := w0.heap.size + 1) (t := 24) (cs := #[Value.string e2, .string v2, .string r2]) (by simp))
      have HB : Hid (Below w0.heap.size w0 ((w0.alloc (.cells #[.string e1, .string v1, .string r1] 24)).alloc (.cells #[.string e2, .string v2, .string r2] 24))) := ((Below.refl _ _).alloc (Nat.le_refl _) _).alloc (by simp) _
      generalize ((w0.alloc (.cells #[.string e1, .string v1, .string r1] 24)).alloc (.cells #[.string e2, .string v2, .string r2] 24)) = w1 at *
      have c10 : w1.cell? ⟨w0.heap.size, 0, none⟩ = some (.string e1) := K1.out.cell 0
      have c11 : w1.cell? ⟨w0.heap.size, 1, none⟩ = some (.string v1) := K1.out.cell 1
      have c12 : w1.cell? ⟨w0.heap.size, 2, none⟩ = some (.string r1) := K1.out.cell 2
      have c20 : w1.cell? ⟨w0.heap.size + 1, 0, none⟩ = some (.string e2) := K2.out.cell 0
      have c21 : w1.cell? ⟨w0.heap.size + 1, 1, none⟩ = some (.string v2) := K2.out.cell 1
      have c22 : w1.cell? ⟨w0.heap.size + 1, 2, none⟩ = some (.string r2) := K2.out.cell 2
      have hl1 := K1.out.lt
      have hl2 := K2.out.lt
      go_wp2_with fail
      refine (CR.out _).mono ?_
      rintro e' w3 ⟨rfl, hb⟩
      clear c10 c11 c12 c20 c21 c22 hl1 hl2
      have K1 := Lib.hid (K1.out.below hb K1.out.lt)
      have K2 := Lib.hid (K2.out.below hb K2.out.lt)
      have HB := Lib.hid (HB.out.trans (hb.mono HB.out.size))
      clear hb
      go_wp2_with fail
      go_ret2
      exact ⟨by rw [HC.out]; rfl, HB.out⟩
  · rw [if_neg y1] at hx1
    rw [hx1] at CR
    clear hx1
    obtain ⟨y1a, y1b, y1c⟩ := blank_of y1
    rw [if_neg y2] at hx2
    rw [hx2] at CR
    clear hx2
    obtain ⟨y2a, y2b, y2c⟩ := blank_of y2
    by_cases h0 : c = 0
    · subst h0
      go_enter Tryd.func29, Tryd.ntmps29
      go_wp2_with fail
      refine (CN.out _).mono ?_
      rintro e' w1 ⟨rfl, rfl⟩
      have K1 := Lib.hid ((Blk.new w0 24 #[Value.string e1, .string v1, .string r1]).alloc (.cells #[.string e2, .string v2, .string r2] 24))
      have K2 := Lib.hid (Blk.new' (w := w0.alloc (.cells #[.string e1, .string v1, .string r1] 24)) (g := w0.heap.size + 1) (t := 24) (cs := #[Value.string e2, .string v2, .string r2]) (by simp))
      have HB : Hid (Below w0.heap.size w0 ((w0.alloc (.cells #[.string e1, .string v1, .string r1] 24)).alloc (.cells #[.string e2, .string v2, .string r2] 24))) := ((Below.refl _ _).alloc (Nat.le_refl _) _).alloc (by simp) _
      generalize ((w0.alloc (.cells #[.string e1, .string v1, .string r1] 24)).alloc (.cells #[.string e2, .string v2, .string r2] 24)) = w1 at *
      have c10 : w1.cell? ⟨w0.heap.size, 0, none⟩ = some (.string e1) := K1.out.cell 0
      have c11 : w1.cell? ⟨w0.heap.size, 1, none⟩ = some (.string v1) := K1.out.cell 1
      have c12 : w1.cell? ⟨w0.heap.size, 2, none⟩ = some (.string r1) := K1.out.cell 2
      have c20 : w1.cell? ⟨w0.heap.size + 1, 0, none⟩ = some (.string e2) := K2.out.cell 0
      have c21 : w1.cell? ⟨w0.heap.size + 1, 1, none⟩ = some (.string v2) := K2.out.cell 1
      have c22 : w1.cell? ⟨w0.heap.size + 1, 2, none⟩ = some (.string r2) := K2.out.cell 2
      have hl1 := K1.out.lt
      have hl2 := K2.out.lt
      go_wp2_with fail
      refine (CT.out _).mono ?_
      rintro e' w2 ⟨rfl, hb⟩
      clear c10 c11 c12 c20 c21 c22 hl1 hl2
      have K1 := Lib.hid (K1.out.below hb K1.out.lt)
      have K2 := Lib.hid (K2.out.below hb K2.out.lt)
      have HB := Lib.hid (HB.out.trans (hb.mono HB.out.size))
      clear hb
      have c10 : w2.cell? ⟨w0.heap.size, 0, none⟩ = some (.string e1) := K1.out.cell 0
      have c11 : w2.cell? ⟨w0.heap.size, 1, none⟩ = some (.string v1) := K1.out.cell 1
      have c12 : w2.cell? ⟨w0.heap.size, 2, none⟩ = some (.string r1) := K1.out.cell 2
      have c20 : w2.cell? ⟨w0.heap.size + 1, 0, none⟩ = some (.string e2) := K2.out.cell 0
      have c21 : w2.cell? ⟨w0.heap.size + 1, 1, none⟩ = some (.string v2) := K2.out.cell 1
      have c22 : w2.cell? ⟨w0.heap.size + 1, 2, none⟩ = some (.string r2) := K2.out.cell 2
      have hl1 := K1.out.lt
      have hl2 := K2.out.lt
      go_wp2_with fail
      refine (CR.out _).mono ?_
      rintro e' w3 ⟨rfl, hb⟩
      clear c10 c11 c12 c20 c21 c22 hl1 hl2
      have K1 := Lib.hid (K1.out.below hb K1.out.lt)
      have K2 := Lib.hid (K2.out.below hb K2.out.lt)
      have HB := Lib.hid (HB.out.trans (hb.mono HB.out.size))
      clear hb
      go_wp2_with fail
      go_ret2
      exact ⟨rfl, HB.out⟩
    · have t1 : (c == 0) = false := by simpa using h0
      have t2 : (c != 0) = true := by simpa using h0
      have HC := Lib.hid (thenC_ne h0 d)
      clear h0
      go_enter Tryd.func29, Tryd.ntmps29
      go_wp2_with fail
      refine (CN.out _).mono ?_
      rintro e' w1 ⟨rfl, rfl⟩
      have K1 := Lib.hid ((Blk.new w0 24 #[Value.string e1, .string v1, .string r1]).alloc (.cells #[.string e2, .string v2, .string r2] 24))
      have K2 := Lib.hid (Blk.new' (w := w0.alloc (.cells #[.string e1, .string v1, .string r1] 24)) (g := w0.heap.size + 1) (t := 24) (cs := #[Value.string e2, .string v2, .string r2]) (by simp))
      have HB : Hid (Below w0.heap.size w0 ((w0.alloc (.cells #[.string e1, .string v1, .string r1] 24)).alloc (.cells #[.string e2, .string v2, .string r2] 24))) := ((Below.refl _ _).alloc (Nat.le_refl _) _).alloc (by simp) _
      generalize ((w0.alloc (.cells #[.string e1, .string v1, .string r1] 24)).alloc (.cells #[.string e2, .string v2, .string r2] 24)) = w1 at *
      have c10 : w1.cell? ⟨w0.heap.size, 0, none⟩ = some (.string e1) := K1.out.cell 0
      have c11 : w1.cell? ⟨w0.heap.size, 1, none⟩ = some (.string v1) := K1.out.cell 1
      have c12 : w1.cell? ⟨w0.heap.size, 2, none⟩ = some (.string r1) := K1.out.cell 2
      have c20 : w1.cell? ⟨w0.heap.size + 1, 0, none⟩ = some (.string e2) := K2.out.cell 0
      have c21 : w1.cell? ⟨w0.heap.size + 1, 1, none⟩ = some (.string v2) := K2.out.cell 1
      have c22 : w1.cell? ⟨w0.heap.size + 1, 2, none⟩ = some (.string r2) := K2.out.cell 2
      have hl1 := K1.out.lt
      have hl2 := K2.out.lt
      go_wp2_with fail
      refine (CR.out _).mono ?_
      rintro e' w3 ⟨rfl, hb⟩
      clear c10 c11 c12 c20 c21 c22 hl1 hl2
      have K1 := Lib.hid (K1.out.below hb K1.out.lt)
      have K2 := Lib.hid (K2.out.below hb K2.out.lt)
      have HB := Lib.hid (HB.out.trans (hb.mono HB.out.size))
      clear hb
      go_wp2_with fail
      go_ret2
      exact ⟨by rw [HC.out]; rfl, HB.out⟩
set_option maxHeartbeats 8000000 in
set_option maxRecDepth 1000000 in
theorem refParts_rpm (e1 v1 r1 e2 v2 r2 : ByteArray) (s1 : e1.size ≤ maxLen) (s2 : e2.size ≤ maxLen) (s3 : v1.size ≤ maxLen) (s4 : v2.size ≤ maxLen) (s5 : r1.size ≤ maxLen) (s6 : r2.size ≤ maxLen) (w0 : World) :
    Calls Tryd.prog 29 #[.int .i64 1, .agg #[.string e1, .string v1, .string r1], .agg #[.string e2, .string v2, .string r2]] w0 fun e w => e = .returned (.tuple #[.int .i64 (thenC (cmpNum e1.data.toList e2.data.toList) (cmpTxt 1 v1.data.toList v2.data.toList)), .int .i64 (cmpRel 1 r1.data.toList r2.data.toList)]) ∧ Below w0.heap.size w0 w := by
  have CN := Lib.hid (fun w => refNumber_any e1 e2 s1 s2 w)
  have CT := Lib.hid (fun w => refRpm_any v1 v2 s3 s4 w)
  unfold PostR at CT
  have HT := Lib.hid (show cmpTxt 1 v1.data.toList v2.data.toList = cmpRpm v1.data.toList v2.data.toList from rfl)
  rw [HT.out]
  clear HT
  generalize cmpNum e1.data.toList e2.data.toList = c at *
  generalize cmpRpm v1.data.toList v2.data.toList = d at *
  clear s1 s2 s3 s4
  by_cases y : r1.size = 0 ∨ r2.size = 0
  · have HF : Hid (cmpRel 1 r1.data.toList r2.data.toList = cmpI ((r1.size : Int) - (r2.size : Int)) 0) := by
      show _ = _
      rw [rel_none (y.elim (fun h => .inl (list_nil h)) (fun h => .inr (list_nil h))), size_len, size_len]
    generalize cmpRel 1 r1.data.toList r2.data.toList = f at *
    unfold maxLen at s5 s6
    by_cases y1 : r1.size = 0
    · obtain rfl := empty_of y1
      clear y y1
      by_cases h0 : c = 0
      · subst h0
        go_enter Tryd.func29, Tryd.ntmps29
        go_wp2_with fail
        refine (CN.out _).mono ?_
        rintro e' w1 ⟨rfl, rfl⟩
        have K1 := Lib.hid ((Blk.new w0 24 #[Value.string e1, .string v1, .string ⟨#[]⟩]).alloc (.cells #[.string e2, .string v2, .string r2] 24))
        have K2 := Lib.hid (Blk.new' (w := w0.alloc (.cells #[.string e1, .string v1, .string ⟨#[]⟩] 24)) (g := w0.heap.size + 1) (t := 24) (cs := #[Value.string e2, .string v2, .string r2]) (by simp))
        have HB : Hid (Below w0.heap.size w0 ((w0.alloc (.cells #[.string e1, .string v1, .string ⟨#[]⟩] 24)).alloc (.cells #[.string e2, .string v2, .string r2] 24))) := ((Below.refl _ _).alloc (Nat.le_refl _) _).alloc (by simp) _
        generalize ((w0.alloc (.cells #[.string e1, .string v1, .string ⟨#[]⟩] 24)).alloc (.cells #[.string e2, .string v2, .string r2] 24)) = w1 at *
        have c10 : w1.cell? ⟨w0.heap.size, 0, none⟩ = some (.string e1) := K1.out.cell 0
        have c11 : w1.cell? ⟨w0.heap.size, 1, none⟩ = some (.string v1) := K1.out.cell 1
        have c12 : w1.cell? ⟨w0.heap.size, 2, none⟩ = some (.string ⟨#[]⟩) := K1.out.cell 2
        have c20 : w1.cell? ⟨w0.heap.size + 1, 0, none⟩ = some (.string e2) := K2.out.cell 0
        have c21 : w1.cell? ⟨w0.heap.size + 1, 1, none⟩ = some (.string v2) := K2.out.cell 1
        have c22 : w1.cell? ⟨w0.heap.size + 1, 2, none⟩ = some (.string r2) := K2.out.cell 2
        have hl1 := K1.out.lt
        have hl2 := K2.out.lt
        go_wp2_with fail
        refine (CT.out _).mono ?_
        rintro e' w2 ⟨rfl, hb⟩
        clear c10 c11 c12 c20 c21 c22 hl1 hl2
        have K1 := Lib.hid (K1.out.below hb K1.out.lt)
        have K2 := Lib.hid (K2.out.below hb K2.out.lt)
        have HB := Lib.hid (HB.out.trans (hb.mono HB.out.size))
        clear hb
        have c10 : w2.cell? ⟨w0.heap.size, 0, none⟩ = some (.string e1) := K1.out.cell 0
        have c11 : w2.cell? ⟨w0.heap.size, 1, none⟩ = some (.string v1) := K1.out.cell 1
        have c12 : w2.cell? ⟨w0.heap.size, 2, none⟩ = some (.string ⟨#[]⟩) := K1.out.cell 2
        have c20 : w2.cell? ⟨w0.heap.size + 1, 0, none⟩ = some (.string e2) := K2.out.cell 0
        have c21 : w2.cell? ⟨w0.heap.size + 1, 1, none⟩ = some (.string v2) := K2.out.cell 1
        have c22 : w2.cell? ⟨w0.heap.size + 1, 2, none⟩ = some (.string r2) := K2.out.cell 2
        have hl1 := K1.out.lt
        have hl2 := K2.out.lt
        go_wp2_with fail
        refine (refSign_any _ _).mono ?_
        rintro e' w3 ⟨rfl, rfl⟩
        go_wp2_with fail
        go_ret2
        exact ⟨ret_two rfl (HF.out.trans (congrArg (fun z => cmpI z 0) (by first | rfl | (have hz0 : (((⟨#[]⟩ : ByteArray).size : Nat) : Int) = 0 := rfl; omega) | simp))), HB.out⟩
      · have t1 : (c == 0) = false := by simpa using h0
        have t2 : (c != 0) = true := by simpa using h0
        have HC := Lib.hid (thenC_ne h0 d)
        clear h0
        go_enter Tryd.func29, Tryd.ntmps29
        go_wp2_with fail
        refine (CN.out _).mono ?_
        rintro e' w1 ⟨rfl, rfl⟩
        have K1 := Lib.hid ((Blk.new w0 24 #[Value.string e1, .string v1, .string ⟨#[]⟩]).alloc (.cells #[.string e2, .string v2, .string r2] 24))
        have K2 := Lib.hid (Blk.new' (w := w0.alloc (.cells #[.string e1, .string v1, .string ⟨#[]⟩] 24)) (g := w0.heap.size + 1) (t := 24) (cs := #[Value.string e2, .string v2, .string r2]) (by simp))
        have HB : Hid (Below w0.heap.size w0 ((w0.alloc (.cells #[.string e1, .string v1, .string ⟨#[]⟩] 24)).alloc (.cells #[.string e2, .string v2, .string r2] 24))) := ((Below.refl _ _).alloc (Nat.le_refl _) _).alloc (by simp) _
        generalize ((w0.alloc (.cells #[.string e1, .string v1, .string ⟨#[]⟩] 24)).alloc (.cells #[.string e2, .string v2, .string r2] 24)) = w1 at *
        have c10 : w1.cell? ⟨w0.heap.size, 0, none⟩ = some (.string e1) := K1.out.cell 0
        have c11 : w1.cell? ⟨w0.heap.size, 1, none⟩ = some (.string v1) := K1.out.cell 1
        have c12 : w1.cell? ⟨w0.heap.size, 2, none⟩ = some (.string ⟨#[]⟩) := K1.out.cell 2
        have c20 : w1.cell? ⟨w0.heap.size + 1, 0, none⟩ = some (.string e2) := K2.out.cell 0
        have c21 : w1.cell? ⟨w0.heap.size + 1, 1, none⟩ = some (.string v2) := K2.out.cell 1
        have c22 : w1.cell? ⟨w0.heap.size + 1, 2, none⟩ = some (.string r2) := K2.out.cell 2
        have hl1 := K1.out.lt
        have hl2 := K2.out.lt
        go_wp2_with fail
        refine (refSign_any _ _).mono ?_
        rintro e' w3 ⟨rfl, rfl⟩
        go_wp2_with fail
        go_ret2
        exact ⟨ret_two HC.out (HF.out.trans (congrArg (fun z => cmpI z 0) (by first | rfl | (have hz0 : (((⟨#[]⟩ : ByteArray).size : Nat) : Int) = 0 := rfl; omega) | simp))), HB.out⟩
    · have y2 : r2.size = 0 := y.resolve_left y1
      obtain rfl := empty_of y2
      clear y y2
      obtain ⟨y1a, y1b, y1c⟩ := blank_of y1
      by_cases h0 : c = 0
      · subst h0
        go_enter Tryd.func29, Tryd.ntmps29
        go_wp2_with fail
        refine (CN.out _).mono ?_
        rintro e' w1 ⟨rfl, rfl⟩
        have K1 := Lib.hid ((Blk.new w0 24 #[Value.string e1, .string v1, .string r1]).alloc (.cells #[.string e2, .string v2, .string ⟨#[]⟩] 24))
        have K2 := Lib.hid (Blk.new' (w := w0.alloc (.cells #[.string e1, .string v1, .string r1] 24)) (g := w0.heap.size + 1) (t := 24) (cs := #[Value.string e2, .string v2, .string ⟨#[]⟩]) (by simp))
        have HB : Hid (Below w0.heap.size w0 ((w0.alloc (.cells #[.string e1, .string v1, .string r1] 24)).alloc (.cells #[.string e2, .string v2, .string ⟨#[]⟩] 24))) := ((Below.refl _ _).alloc (Nat.le_refl _) _).alloc (by simp) _
        generalize ((w0.alloc (.cells #[.string e1, .string v1, .string r1] 24)).alloc (.cells #[.string e2, .string v2, .string ⟨#[]⟩] 24)) = w1 at *
        have c10 : w1.cell? ⟨w0.heap.size, 0, none⟩ = some (.string e1) := K1.out.cell 0
        have c11 : w1.cell? ⟨w0.heap.size, 1, none⟩ = some (.string v1) := K1.out.cell 1
        have c12 : w1.cell? ⟨w0.heap.size, 2, none⟩ = some (.string r1) := K1.out.cell 2
        have c20 : w1.cell? ⟨w0.heap.size + 1, 0, none⟩ = some (.string e2) := K2.out.cell 0
        have c21 : w1.cell? ⟨w0.heap.size + 1, 1, none⟩ = some (.string v2) := K2.out.cell 1
        have c22 : w1.cell? ⟨w0.heap.size + 1, 2, none⟩ = some (.string ⟨#[]⟩) := K2.out.cell 2
        have hl1 := K1.out.lt
        have hl2 := K2.out.lt
        go_wp2_with fail
        refine (CT.out _).mono ?_
        rintro e' w2 ⟨rfl, hb⟩
        clear c10 c11 c12 c20 c21 c22 hl1 hl2
        have K1 := Lib.hid (K1.out.below hb K1.out.lt)
        have K2 := Lib.hid (K2.out.below hb K2.out.lt)
        have HB := Lib.hid (HB.out.trans (hb.mono HB.out.size))
        clear hb
        have c10 : w2.cell? ⟨w0.heap.size, 0, none⟩ = some (.string e1) := K1.out.cell 0
        have c11 : w2.cell? ⟨w0.heap.size, 1, none⟩ = some (.string v1) := K1.out.cell 1
        have c12 : w2.cell? ⟨w0.heap.size, 2, none⟩ = some (.string r1) := K1.out.cell 2
        have c20 : w2.cell? ⟨w0.heap.size + 1, 0, none⟩ = some (.string e2) := K2.out.cell 0
        have c21 : w2.cell? ⟨w0.heap.size + 1, 1, none⟩ = some (.string v2) := K2.out.cell 1
        have c22 : w2.cell? ⟨w0.heap.size + 1, 2, none⟩ = some (.string ⟨#[]⟩) := K2.out.cell 2
        have hl1 := K1.out.lt
        have hl2 := K2.out.lt
        go_wp2_with fail
        refine (refSign_any _ _).mono ?_
        rintro e' w3 ⟨rfl, rfl⟩
        go_wp2_with fail
        go_ret2
        exact ⟨ret_two rfl (HF.out.trans (congrArg (fun z => cmpI z 0) (by first | rfl | (have hz0 : (((⟨#[]⟩ : ByteArray).size : Nat) : Int) = 0 := rfl; omega) | simp))), HB.out⟩
      · have t1 : (c == 0) = false := by simpa using h0
        have t2 : (c != 0) = true := by simpa using h0
        have HC := Lib.hid (thenC_ne h0 d)
        clear h0
        go_enter Tryd.func29, Tryd.ntmps29
        go_wp2_with fail
        refine (CN.out _).mono ?_
        rintro e' w1 ⟨rfl, rfl⟩
        have K1 := Lib.hid ((Blk.new w0 24 #[Value.string e1, .string v1, .string r1]).alloc (.cells #[.string e2, .string v2, .string ⟨#[]⟩] 24))
        have K2 := Lib.hid (Blk.new' (w := w0.alloc (.cells #[.string e1, .string v1, .string r1] 24)) (g := w0.heap.size + 1) (t := 24) (cs := #[Value.string e2, .string v2, .string ⟨#[]⟩]) (by simp))
        have HB : Hid (Below w0.heap.size w0 ((w0.alloc (.cells #[.string e1, .string v1, .string r1] 24)).alloc (.cells #[.string e2, .string v2, .string ⟨#[]⟩] 24))) := ((Below.refl _ _).alloc (Nat.le_refl _) _).alloc (by simp) _
        generalize ((w0.alloc (.cells #[.string e1, .string v1, .string r1] 24)).alloc (.cells #[.string e2, .string v2, .string ⟨#[]⟩] 24)) = w1 at *
        have c10 : w1.cell? ⟨w0.heap.size, 0, none⟩ = some (.string e1) := K1.out.cell 0
        have c11 : w1.cell? ⟨w0.heap.size, 1, none⟩ = some (.string v1) := K1.out.cell 1
        have c12 : w1.cell? ⟨w0.heap.size, 2, none⟩ = some (.string r1) := K1.out.cell 2
        have c20 : w1.cell? ⟨w0.heap.size + 1, 0, none⟩ = some (.string e2) := K2.out.cell 0
        have c21 : w1.cell? ⟨w0.heap.size + 1, 1, none⟩ = some (.string v2) := K2.out.cell 1
        have c22 : w1.cell? ⟨w0.heap.size + 1, 2, none⟩ = some (.string ⟨#[]⟩) := K2.out.cell 2
        have hl1 := K1.out.lt
        have hl2 := K2.out.lt
        go_wp2_with fail
        refine (refSign_any _ _).mono ?_
        rintro e' w3 ⟨rfl, rfl⟩
        go_wp2_with fail
        go_ret2
        exact ⟨ret_two HC.out (HF.out.trans (congrArg (fun z => cmpI z 0) (by first | rfl | (have hz0 : (((⟨#[]⟩ : ByteArray).size : Nat) : Int) = 0 := rfl; omega) | simp))), HB.out⟩
  · have y1 : ¬ r1.size = 0 := fun h => y (.inl h)
    have y2 : ¬ r2.size = 0 := fun h => y (.inr h)
    obtain ⟨y1a, y1b, y1c⟩ := blank_of y1
    obtain ⟨y2a, y2b, y2c⟩ := blank_of y2
    have CR := Lib.hid (fun w => refRpm_any r1 r2 s5 s6 w)
    unfold PostR at CR
    rw [← rel_some y1c y2c] at CR
    generalize cmpRel 1 r1.data.toList r2.data.toList = f at *
    clear y y1c y2c s5 s6
    by_cases h0 : c = 0
    · subst h0
      go_enter Tryd.func29, Tryd.ntmps29
      go_wp2_with fail
      refine (CN.out _).mono ?_
      rintro e' w1 ⟨rfl, rfl⟩
      have K1 := Lib.hid ((Blk.new w0 24 #[Value.string e1, .string v1, .string r1]).alloc (.cells #[.string e2, .string v2, .string r2] 24))
      have K2 := Lib.hid (Blk.new' (w := w0.alloc (.cells #[.string e1, .string v1, .string r1] 24)) (g := w0.heap.size + 1) (t := 24) (cs := #[Value.string e2, .string v2, .string r2]) (by simp))
      have HB : Hid (Below w0.heap.size w0 ((w0.alloc (.cells #[.string e1, .string v1, .string r1] 24)).alloc (.cells #[.string e2, .string v2, .string r2] 24))) := ((Below.refl _ _).alloc (Nat.le_refl _) _).alloc (by simp) _
      generalize ((w0.alloc (.cells #[.string e1, .string v1, .string r1] 24)).alloc (.cells #[.string e2, .string v2, .string r2] 24)) = w1 at *
      have c10 : w1.cell? ⟨w0.heap.size, 0, none⟩ = some (.string e1) := K1.out.cell 0
      have c11 : w1.cell? ⟨w0.heap.size, 1, none⟩ = some (.string v1) := K1.out.cell 1
      have c12 : w1.cell? ⟨w0.heap.size, 2, none⟩ = some (.string r1) := K1.out.cell 2
      have c20 : w1.cell? ⟨w0.heap.size + 1, 0, none⟩ = some (.string e2) := K2.out.cell 0
      have c21 : w1.cell? ⟨w0.heap.size + 1, 1, none⟩ = some (.string v2) := K2.out.cell 1
      have c22 : w1.cell? ⟨w0.heap.size + 1, 2, none⟩ = some (.string r2) := K2.out.cell 2
      have hl1 := K1.out.lt
      have hl2 := K2.out.lt
      go_wp2_with fail
      refine (CT.out _).mono ?_
      rintro e' w2 ⟨rfl, hb⟩
      clear c10 c11 c12 c20 c21 c22 hl1 hl2
      have K1 := Lib.hid (K1.out.below hb K1.out.lt)
      have K2 := Lib.hid (K2.out.below hb K2.out.lt)
      have HB := Lib.hid (HB.out.trans (hb.mono HB.out.size))
      clear hb
      have c10 : w2.cell? ⟨w0.heap.size, 0, none⟩ = some (.string e1) := K1.out.cell 0
      have c11 : w2.cell? ⟨w0.heap.size, 1, none⟩ = some (.string v1) := K1.out.cell 1
      have c12 : w2.cell? ⟨w0.heap.size, 2, none⟩ = some (.string r1) := K1.out.cell 2
      have c20 : w2.cell? ⟨w0.heap.size + 1, 0, none⟩ = some (.string e2) := K2.out.cell 0
      have c21 : w2.cell? ⟨w0.heap.size + 1, 1, none⟩ = some (.string v2) := K2.out.cell 1
      have c22 : w2.cell? ⟨w0.heap.size + 1, 2, none⟩ = some (.string r2) := K2.out.cell 2
      have hl1 := K1.out.lt
      have hl2 := K2.out.lt
      go_wp2_with fail
      refine (CR.out _).mono ?_
      rintro e' w3 ⟨rfl, hb⟩
      clear c10 c11 c12 c20 c21 c22 hl1 hl2
      have K1 := Lib.hid (K1.out.below hb K1.out.lt)
      have K2 := Lib.hid (K2.out.below hb K2.out.lt)
      have HB := Lib.hid (HB.out.trans (hb.mono HB.out.size))
      clear hb
      go_wp2_with fail
      go_ret2
      exact ⟨rfl, HB.out⟩
    · have t1 : (c == 0) = false := by simpa using h0
      have t2 : (c != 0) = true := by simpa using h0
      have HC := Lib.hid (thenC_ne h0 d)
      clear h0
      go_enter Tryd.func29, Tryd.ntmps29
      go_wp2_with fail
      refine (CN.out _).mono ?_
      rintro e' w1 ⟨rfl, rfl⟩
      have K1 := Lib.hid ((Blk.new w0 24 #[Value.string e1, .string v1, .string r1]).alloc (.cells #[.string e2, .string v2, .string r2] 24))
      have K2 := Lib.hid (Blk.new' (w := w0.alloc (.cells #[.string e1, .string v1, .string r1] 24)) (g := w0.heap.size + 1) (t := 24) (cs := #[Value.string e2, .string v2, .string r2]) (by simp))
      have HB : Hid (Below w0.heap.size w0 ((w0.alloc (.cells #[.string e1, .string v1, .string r1] 24)).alloc (.cells #[.string e2, .string v2, .string r2] 24))) := ((Below.refl _ _).alloc (Nat.le_refl _) _).alloc (by simp) _
      generalize ((w0.alloc (.cells #[.string e1, .string v1, .string r1] 24)).alloc (.cells #[.string e2, .string v2, .string r2] 24)) = w1 at *
      have c10 : w1.cell? ⟨w0.heap.size, 0, none⟩ = some (.string e1) := K1.out.cell 0
      have c11 : w1.cell? ⟨w0.heap.size, 1, none⟩ = some (.string v1) := K1.out.cell 1
      have c12 : w1.cell? ⟨w0.heap.size, 2, none⟩ = some (.string r1) := K1.out.cell 2
      have c20 : w1.cell? ⟨w0.heap.size + 1, 0, none⟩ = some (.string e2) := K2.out.cell 0
      have c21 : w1.cell? ⟨w0.heap.size + 1, 1, none⟩ = some (.string v2) := K2.out.cell 1
      have c22 : w1.cell? ⟨w0.heap.size + 1, 2, none⟩ = some (.string r2) := K2.out.cell 2
      have hl1 := K1.out.lt
      have hl2 := K2.out.lt
      go_wp2_with fail
      refine (CR.out _).mono ?_
      rintro e' w3 ⟨rfl, hb⟩
      clear c10 c11 c12 c20 c21 c22 hl1 hl2
      have K1 := Lib.hid (K1.out.below hb K1.out.lt)
      have K2 := Lib.hid (K2.out.below hb K2.out.lt)
      have HB := Lib.hid (HB.out.trans (hb.mono HB.out.size))
      clear hb
      go_wp2_with fail
      go_ret2
      exact ⟨by rw [HC.out]; rfl, HB.out⟩
end Go.Proofs.YtbfpljlgjpmmmaaDoor
