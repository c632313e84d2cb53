/- Parts of the proof. -/
import Derived.Test.YtdhgiammfpjniaaGreatDoorZrag
import Derived.Test.YtdhgiammfpjniaaGreatDoorZraq
namespace Go.Proofs.YtdhgiammfpjniaaGreatDoor.Ev
set_option linter.unusedSimpArgs false
set_option linter.unusedVariables false
open Go.RowKit
def PPost (w0 : World) (o : Option Parts) (e : Ending) (w : World) : Prop := e = .returned (.tuple #[evrV o, .int .i64 (errV o)]) ∧ Below w0.heap.size w0 w
theorem PPost.mk_none {w0 w : World} {o : Option Parts} (h : o = none) (hb : Below w0.heap.size w0 w) : PPost w0 o (.returned (.tuple #[.agg #[.string ⟨#[]⟩, .string ⟨#[]⟩, .string ⟨#[]⟩], .int .i64 30])) w := by
 subst h; exact ⟨rfl, hb⟩
theorem PPost.mk_some {w0 w : World} {o : Option Parts} {e v r : ByteArray} (h : o = some ⟨e.data.toList, v.data.toList, r.data.toList⟩) (hb : Below w0.heap.size w0 w) : PPost w0 o (.returned (.tuple #[.agg #[.string e, .string v, .string r], .int .i64 0])) w := by
 subst h; exact ⟨rfl, hb⟩
theorem aqQy {l : List UInt8} (h : mayB l = false) : parse l = none := by
 by_cases hg : l.length ≤ 60 ∧ l.all isMay = true
 ·unfold mayB at h
  rw [hg.2, decide_eq_true hg.1] at h
  simp at h
  subst h
  rfl
 ·exact ahQd hg
theorem may_yes {l : List UInt8} (h : mayB l = true) : (l.length ≤ 60 ∧ l.all isMay = true) ∧ 1 ≤ l.length := by
 unfold mayB at h
 simp only [Bool.and_eq_true, decide_eq_true_eq] at h
 exact ⟨⟨h.2, h.1.1⟩, h.1.2⟩
theorem parse_at {l : List UInt8} (h : l.length ≤ 60 ∧ l.all isMay = true) {k : Nat} (hk : l[k]? = some (58 : UInt8)) (hn : ∀ j, j < k → l[j]? ≠ some (58 : UInt8)) :
 parse l = if digB (l.take k) = true then vr (l.take k) (l.drop (k + 1)) else none := by
 unfold parse
 rw [if_pos h, anQ6 hk hn]
 simp only
 have e1 : (l.take k ≠ []) ↔ 1 ≤ (l.take k).length := by rw [← List.length_pos_iff]; exact Iff.rfl
 unfold digB
 by_cases hx : l.take k ≠ [] ∧ (l.take k).length ≤ 9 ∧ (l.take k).all isDg = true
 ·rw [if_pos hx, if_pos (by rw [hx.2.2, decide_eq_true hx.2.1, decide_eq_true (e1.1 hx.1)]; rfl)]
 ·rw [if_neg hx, if_neg (fun hy => hx (by
   simp only [Bool.and_eq_true, decide_eq_true_eq] at hy
   exact ⟨e1.2 hy.1.2, hy.2, hy.1.1⟩))]
theorem aiQ6 {l : List UInt8} (h : l.length ≤ 60 ∧ l.all isMay = true) (hn : ∀ j, j < l.length → l[j]? ≠ some (58 : UInt8)) : parse l = vr [] l :=
 ahQb h (fun hm => by
  obtain ⟨j, hj, e⟩ := List.mem_iff_getElem.1 hm
  exact hn j hj (by rw [List.getElem?_eq_getElem hj, e]))
set_option maxHeartbeats 16000000 in
set_option maxRecDepth 1000000 in
theorem afQ7 (s0 : ByteArray) (hs0 : s0.size ≤ maxLen) (w0 : World) :
 Calls Tryz.prog 113 #[.string s0] w0 (PPost w0 (parse s0.data.toList)) := by
 have CM := hQQ (fun w => aoQy s0 hs0 w)
 unfold maxLen at hs0
 cases hm : mayB s0.data.toList with
 | false =>
   have HP := hQQ (aqQy hm)
   rw [hm] at CM
   clear hm
   go_enter Tryz.func113, Tryz.ntmps113
   go_wp2_with fail
   refine (CM.out _).mono ?_
   rintro e w1 ⟨rfl, rfl⟩
   have K0 := Blk.new w0 101 #[Value.string ⟨#[]⟩, .string ⟨#[]⟩, .string ⟨#[]⟩]
   have HB : Hid (Below w0.heap.size w0 (w0.alloc (.cells #[.string ⟨#[]⟩, .string ⟨#[]⟩, .string ⟨#[]⟩] 101))) := (Below.refl _ _).alloc (Nat.le_refl _) _
   generalize w0.alloc (.cells #[.string ⟨#[]⟩, .string ⟨#[]⟩, .string ⟨#[]⟩] 101) = w1 at *
   have hlt := K0.lt
   have c0 : w1.cell? ⟨w0.heap.size, 0, none⟩ = some (.string ⟨#[]⟩) := K0.cell 0
   have c1 : w1.cell? ⟨w0.heap.size, 1, none⟩ = some (.string ⟨#[]⟩) := K0.cell 1
   have c2 : w1.cell? ⟨w0.heap.size, 2, none⟩ = some (.string ⟨#[]⟩) := K0.cell 2
   have f0 := K0.free 0
   have f1 := K0.free 1
   have f2 := K0.free 2
   clear K0
   go_wp2_with fail
   refine bodyPost_ret (v := .tuple #[.agg #[.string ⟨#[]⟩, .string ⟨#[]⟩, .string ⟨#[]⟩], .int .i64 30]) (by simp [results, Tryz.results113, go_sem, hlt, c0, c1, c2, f0, f1, f2]) rfl (PPost.mk_none HP.out ?_)
   exact ((HB.out.setCell (Nat.le_refl _) _).setCell (Nat.le_refl _) _).setCell (Nat.le_refl _) _
 | true =>
   have hy := may_yes hm
   have HG := hQQ hy.1
   have hsz : s0.size ≤ 60 := by rw [← aaQd]; exact hy.1.1
   have h1s : 1 ≤ s0.size := by rw [← aaQd]; exact hy.2
   rw [hm] at CM
   clear hm hy
   go_enter Tryz.func113, Tryz.ntmps113
   go_wp2_with fail
   refine (CM.out _).mono ?_
   rintro e w1 ⟨rfl, rfl⟩
   go_wp2_with fail
   have K0 := hQQ ((Blk.new w0 101 #[Value.string ⟨#[]⟩, .string ⟨#[]⟩, .string ⟨#[]⟩]).alloc (.cells #[.string ⟨#[]⟩, .string ⟨#[]⟩, .string ⟨#[]⟩] 101))
   have K1 := hQQ (Blk.new' (w := w0.alloc (.cells #[.string ⟨#[]⟩, .string ⟨#[]⟩, .string ⟨#[]⟩] 101)) (g := w0.heap.size + 1) (t := 101) (cs := #[Value.string ⟨#[]⟩, .string ⟨#[]⟩, .string ⟨#[]⟩]) (by simp))
   have HB : Hid (Below w0.heap.size w0 ((w0.alloc (.cells #[.string ⟨#[]⟩, .string ⟨#[]⟩, .string ⟨#[]⟩] 101)).alloc (.cells #[.string ⟨#[]⟩, .string ⟨#[]⟩, .string ⟨#[]⟩] 101))) := ((Below.refl _ _).alloc (Nat.le_refl _) _).alloc (by simp) _
   generalize (w0.alloc (.cells #[.string ⟨#[]⟩, .string ⟨#[]⟩, .string ⟨#[]⟩] 101)).alloc (.cells #[.string ⟨#[]⟩, .string ⟨#[]⟩, .string ⟨#[]⟩] 101) = w1 at *
   clear CM
   go_loop [0, 6] (fun v i => ∃ k : Nat, v = .string s0 ∧ k ≤ s0.size ∧ i = .int .i64 (k : Int) ∧ Hid (∀ j, j < k → s0.data.toList[j]? ≠ some (58 : UInt8))) (fun _ i => s0.size - (intOf i).toNat)
   case atStart => exact ⟨0, rfl, Nat.zero_le _, rfl, show ∀ j, j < 0 → _ from fun j hj => absurd hj (Nat.not_lt_zero _)⟩
   case round =>
    obtain ⟨k, rfl, hk, rfl, hn⟩ := hrel
    by_cases hlt : k < s0.size
    ·have HB0 := hQQ (aaQw hlt)
     have x0 : (k : Int) < (s0.size : Int) := by omega
     have x2 : (k : Int) + 1 ≤ (s0.size : Int) := by omega
     have x3 : (k : Int) ≤ (s0.size : Int) := by omega
     have x4 : (s0.size : Int) ≤ 60 := by omega
     by_cases hc : s0[k] = 58
     ·obtain ⟨t1, t2⟩ := abQu (n := 58) rfl hc
      rw [hc] at HB0
      have LE : Hid ((s0.extract 0 k).data.toList = s0.data.toList.take k) := acQa _ _
      have LS : Hid ((s0.extract (k + 1) s0.size).data.toList = s0.data.toList.drop (k + 1)) := acQ9 _ _
      have HP0 := hQQ (parse_at HG.out HB0.out hn.out)
      have CD := hQQ (fun w => aiQ5 (s0.extract 0 k) (by simp; unfold maxLen; omega) w)
      rw [LE.out] at CD
      cases hdg : digB (s0.data.toList.take k) with
      | false =>
        have HV : Hid (parse s0.data.toList = none) := by show _ = _; rw [HP0.out, hdg]; rfl
        rw [hdg] at CD
        clear hdg HP0 hn HB0 hc LE LS
        go_wp2_with fail
        refine (CD.out _).mono ?_
        rintro e w2 ⟨rfl, rfl⟩
        have hg0 := K0.out.lt
        have c0 : w1.cell? ⟨w0.heap.size, 0, none⟩ = some (.string ⟨#[]⟩) := K0.out.cell 0
        have c1 : w1.cell? ⟨w0.heap.size, 1, none⟩ = some (.string ⟨#[]⟩) := K0.out.cell 1
        have c2 : w1.cell? ⟨w0.heap.size, 2, none⟩ = some (.string ⟨#[]⟩) := K0.out.cell 2
        have f0 := K0.out.free 0
        have f1 := K0.out.free 1
        have f2 := K0.out.free 2
        go_wp2_with fail
        refine bodyPost_ret (v := .tuple #[.agg #[.string ⟨#[]⟩, .string ⟨#[]⟩, .string ⟨#[]⟩], .int .i64 30]) (by simp [results, Tryz.results113, go_sem, hg0, c0, c1, c2, f0, f1, f2]) rfl (PPost.mk_none HV.out ?_)
        exact ((HB.out.setCell (Nat.le_refl _) _).setCell (Nat.le_refl _) _).setCell (Nat.le_refl _) _
      | true =>
        have HP : Hid (parse s0.data.toList = vr (s0.extract 0 k).data.toList (s0.extract (k + 1) s0.size).data.toList) := by show _ = _; rw [HP0.out, hdg, if_pos rfl, LE.out, LS.out]
        rw [hdg] at CD
        have z0 : (s0.extract 0 k).size ≤ 60 := by simp; omega
        have zs : (s0.extract (k + 1) s0.size).size ≤ 60 := by simp; omega
        have zq := hQQ (show (s0.extract (k + 1) s0.size).size = s0.size - (k + 1) by simp)
        clear hdg HP0 hn HB0 hc LE LS HG
        go_wp2_with fail
        refine (CD.out _).mono ?_
        rintro e w2 ⟨rfl, rfl⟩
        have c10 : w1.cell? ⟨w0.heap.size + 1, 0, none⟩ = some (.string ⟨#[]⟩) := K1.out.cell 0
        have c11 : w1.cell? ⟨w0.heap.size + 1, 1, none⟩ = some (.string ⟨#[]⟩) := K1.out.cell 1
        have c12 : w1.cell? ⟨w0.heap.size + 1, 2, none⟩ = some (.string ⟨#[]⟩) := K1.out.cell 2
        have hg1 := K1.out.lt
        have f10 := K1.out.free 0
        have f11 := K1.out.free 1
        have f12 := K1.out.free 2
        go_wp2_with fail
        clear hg1 f10 f11 f12 c10 c11 c12
        have K0_ : Hid (Blk ((w1.setCell ⟨w0.heap.size + 1, 0, none⟩ (.string (s0.extract 0 k))).setCell ⟨w0.heap.size + 1, 1, none⟩ (.string (s0.extract (k + 1) s0.size))) w0.heap.size 101 #[Value.string ⟨#[]⟩, .string ⟨#[]⟩, .string ⟨#[]⟩]) := ((K0.out.far (by simp) _).far (by simp) _)
        have K1_ : Hid (Blk ((w1.setCell ⟨w0.heap.size + 1, 0, none⟩ (.string (s0.extract 0 k))).setCell ⟨w0.heap.size + 1, 1, none⟩ (.string (s0.extract (k + 1) s0.size))) (w0.heap.size + 1) 101 #[Value.string (s0.extract 0 k), .string (s0.extract (k + 1) s0.size), .string ⟨#[]⟩]) := ((K1.out.set_ 0 _).set_ 1 _)
        have HB_ : Hid (Below w0.heap.size w0 ((w1.setCell ⟨w0.heap.size + 1, 0, none⟩ (.string (s0.extract 0 k))).setCell ⟨w0.heap.size + 1, 1, none⟩ (.string (s0.extract (k + 1) s0.size)))) := ((HB.out.setCell (by simp) _).setCell (by simp) _)
        clear K0 K1 HB
        have K0 := hQQ K0_.out
        have K1 := hQQ K1_.out
        have HB := hQQ HB_.out
        clear K0_ K1_ HB_
        generalize ((w1.setCell ⟨w0.heap.size + 1, 0, none⟩ (.string (s0.extract 0 k))).setCell ⟨w0.heap.size + 1, 1, none⟩ (.string (s0.extract (k + 1) s0.size))) = w2 at *
        generalize s0.extract 0 k = E at *
        generalize s0.extract (k + 1) s0.size = S at *
        go_loop [8] (fun i => ∃ n : Int, i = .int .i64 n ∧ -1 ≤ n ∧ n < (S.size : Int) ∧ Hid (∀ j : Nat, n < (j : Int) → j < S.data.toList.length → S.data.toList[j]? ≠ some (45 : UInt8))) (fun i => (intOf i + 1).toNat)
        case atStart => exact ⟨_, rfl, by have := zq.out; omega, by have := zq.out; omega, show ∀ j : Nat, _ from fun j h1 h2 => by have := zq.out; rw [aaQd] at h2; omega⟩
        case round =>
         obtain ⟨n, rfl, n0, n1, hd⟩ := hrel
         clear zq
         by_cases hz : n < 0
         ·obtain rfl : n = -1 := by omega
          have HD := hQQ (no_at (fun j hj => hd.out j (by omega) hj))
          clear hd hz n0 n1
          by_cases ze : S.size = 0
          ·have HV : Hid (parse s0.data.toList = none) := by
            show _ = _
            rw [HP.out, abQe ze]; rfl
           have z1 : S.toList.isEmpty = true := by rw [ByteArray.toList_eq, abQe ze]; rfl
           have z2 : S.toList = [] := by rw [ByteArray.toList_eq, abQe ze]
           clear HP HD
           have c10 : w2.cell? ⟨w0.heap.size + 1, 0, none⟩ = some (.string E) := K1.out.cell 0
           have c11 : w2.cell? ⟨w0.heap.size + 1, 1, none⟩ = some (.string S) := K1.out.cell 1
           have c12 : w2.cell? ⟨w0.heap.size + 1, 2, none⟩ = some (.string ⟨#[]⟩) := K1.out.cell 2
           have hg1 := K1.out.lt
           have f10 := K1.out.free 0
           have f11 := K1.out.free 1
           have f12 := K1.out.free 2
           have hg0 := K0.out.lt
           have c0 : w2.cell? ⟨w0.heap.size, 0, none⟩ = some (.string ⟨#[]⟩) := K0.out.cell 0
           have c1 : w2.cell? ⟨w0.heap.size, 1, none⟩ = some (.string ⟨#[]⟩) := K0.out.cell 1
           have c2 : w2.cell? ⟨w0.heap.size, 2, none⟩ = some (.string ⟨#[]⟩) := K0.out.cell 2
           have f0 := K0.out.free 0
           have f1 := K0.out.free 1
           have f2 := K0.out.free 2
           go_wp2_with fail
           refine bodyPost_ret (v := .tuple #[.agg #[.string ⟨#[]⟩, .string ⟨#[]⟩, .string ⟨#[]⟩], .int .i64 30]) (by simp [results, Tryz.results113, go_sem, hg0, c0, c1, c2, f0, f1, f2]) rfl (PPost.mk_none HV.out ?_)
           exact ((HB.out.setCell (Nat.le_refl _) _).setCell (Nat.le_refl _) _).setCell (Nat.le_refl _) _
          ·obtain ⟨z1, z2, z3⟩ := abQg ze
           have c10 : w2.cell? ⟨w0.heap.size + 1, 0, none⟩ = some (.string E) := K1.out.cell 0
           have c11 : w2.cell? ⟨w0.heap.size + 1, 1, none⟩ = some (.string S) := K1.out.cell 1
           have c12 : w2.cell? ⟨w0.heap.size + 1, 2, none⟩ = some (.string ⟨#[]⟩) := K1.out.cell 2
           have hg1 := K1.out.lt
           have f10 := K1.out.free 0
           have f11 := K1.out.free 1
           have f12 := K1.out.free 2
           have CI := hQQ (fun w => adQ2 58 S (by unfold maxLen; omega) w)
           change Hid (∀ w, Calls Tryz.prog 174 #[.int .u8 58, .string S] w fun e w' => e = .returned (.bool (decide ((58 : UInt8) ∈ S.data.toList))) ∧ w = w') at CI
           by_cases hx : (58 : UInt8) ∈ S.data.toList
           ·have HV := hQQ (HP.out.trans (adQl hx))
            rw [decide_eq_true hx] at CI
            clear hx
            go_wp2_with fail
            refine (CI.out _).mono ?_
            rintro e w4 ⟨rfl, rfl⟩
            have hg0 := K0.out.lt
            have c0 : w2.cell? ⟨w0.heap.size, 0, none⟩ = some (.string ⟨#[]⟩) := K0.out.cell 0
            have c1 : w2.cell? ⟨w0.heap.size, 1, none⟩ = some (.string ⟨#[]⟩) := K0.out.cell 1
            have c2 : w2.cell? ⟨w0.heap.size, 2, none⟩ = some (.string ⟨#[]⟩) := K0.out.cell 2
            have f0 := K0.out.free 0
            have f1 := K0.out.free 1
            have f2 := K0.out.free 2
            go_wp2_with fail
            refine bodyPost_ret (v := .tuple #[.agg #[.string ⟨#[]⟩, .string ⟨#[]⟩, .string ⟨#[]⟩], .int .i64 30]) (by simp [results, Tryz.results113, go_sem, hg0, c0, c1, c2, f0, f1, f2]) rfl (PPost.mk_none HV.out ?_)
            exact ((HB.out.setCell (Nat.le_refl _) _).setCell (Nat.le_refl _) _).setCell (Nat.le_refl _) _
           ·have HV := hQQ (HP.out.trans ((aeQg hx HD.out).trans (if_neg z3)))
            rw [decide_eq_false hx] at CI
            clear hx
            go_wp2_with fail
            refine (CI.out _).mono ?_
            rintro e w4 ⟨rfl, rfl⟩
            have hg0 := K0.out.lt
            have c0 : w2.cell? ⟨w0.heap.size, 0, none⟩ = some (.string ⟨#[]⟩) := K0.out.cell 0
            have c1 : w2.cell? ⟨w0.heap.size, 1, none⟩ = some (.string ⟨#[]⟩) := K0.out.cell 1
            have c2 : w2.cell? ⟨w0.heap.size, 2, none⟩ = some (.string ⟨#[]⟩) := K0.out.cell 2
            have f0 := K0.out.free 0
            have f1 := K0.out.free 1
            have f2 := K0.out.free 2
            go_wp2_with fail
            refine bodyPost_ret (v := .tuple #[.agg #[.string E, .string S, .string ⟨#[]⟩], .int .i64 0]) (by simp [results, Tryz.results113, go_sem, hg0, c0, c1, c2, f0, f1, f2]) rfl (PPost.mk_some HV.out ?_)
            exact ((HB.out.setCell (Nat.le_refl _) _).setCell (Nat.le_refl _) _).setCell (Nat.le_refl _) _
         ·obtain ⟨k, rfl⟩ := Int.eq_ofNat_of_zero_le (a := n) (by omega)
          have hlt : k < S.size := by omega
          have HB0 := hQQ (aaQw hlt)
          have x1 : (0 : Int) ≤ (k : Int) := by omega
          have x2 : (k : Int) + 1 ≤ (S.size : Int) := by omega
          have x3 : (k : Int) ≤ (S.size : Int) := by omega
          have x4 : (S.size : Int) ≤ 60 := by omega
          by_cases hc : S[k] = 45
          ·obtain ⟨t1, t2⟩ := abQu (n := 45) rfl hc
           rw [hc] at HB0
           have HJ : Hid (∀ j, k < j → j < S.data.toList.length → S.data.toList[j]? ≠ some (45 : UInt8)) := fun j h1 h2 => hd.out j (by omega) h2
           have LV : Hid ((S.extract 0 k).data.toList = S.data.toList.take k) := acQa _ _
           have LR : Hid ((S.extract (k + 1) S.size).data.toList = S.data.toList.drop (k + 1)) := acQ9 _ _
           clear hc hd hz n0 n1
           by_cases zr : (S.extract (k + 1) S.size).size = 0
           ·have HV := hQQ (HP.out.trans (acQ3 HB0.out HJ.out (.inr (by rw [← LR.out]; exact abQe zr))))
            have z1 : (S.extract (k + 1) S.size).toList.isEmpty = true := by rw [ByteArray.toList_eq, abQe zr]; rfl
            have z2 : (S.extract (k + 1) S.size).toList = [] := by rw [ByteArray.toList_eq, abQe zr]
            clear HP LV LR HJ
            have c10 : w2.cell? ⟨w0.heap.size + 1, 0, none⟩ = some (.string E) := K1.out.cell 0
            have c11 : w2.cell? ⟨w0.heap.size + 1, 1, none⟩ = some (.string S) := K1.out.cell 1
            have c12 : w2.cell? ⟨w0.heap.size + 1, 2, none⟩ = some (.string ⟨#[]⟩) := K1.out.cell 2
            have hg1 := K1.out.lt
            have f10 := K1.out.free 0
            have f11 := K1.out.free 1
            have f12 := K1.out.free 2
            have hg0 := K0.out.lt
            have c0 : w2.cell? ⟨w0.heap.size, 0, none⟩ = some (.string ⟨#[]⟩) := K0.out.cell 0
            have c1 : w2.cell? ⟨w0.heap.size, 1, none⟩ = some (.string ⟨#[]⟩) := K0.out.cell 1
            have c2 : w2.cell? ⟨w0.heap.size, 2, none⟩ = some (.string ⟨#[]⟩) := K0.out.cell 2
            have f0 := K0.out.free 0
            have f1 := K0.out.free 1
            have f2 := K0.out.free 2
            go_wp2_with fail
            refine bodyPost_ret (v := .tuple #[.agg #[.string ⟨#[]⟩, .string ⟨#[]⟩, .string ⟨#[]⟩], .int .i64 30]) (by simp [results, Tryz.results113, go_sem, hg0, c0, c1, c2, f0, f1, f2]) rfl (PPost.mk_none HV.out ?_)
            exact ((((HB.out.setCell (by simp) _).setCell (by simp) _).setCell (Nat.le_refl _) _).setCell (Nat.le_refl _) _).setCell (Nat.le_refl _) _
           ·obtain ⟨y1, y2, y3⟩ := abQg zr
            have CI := hQQ (fun w => adQ2 58 S (by unfold maxLen; omega) w)
            change Hid (∀ w, Calls Tryz.prog 174 #[.int .u8 58, .string S] w fun e w' => e = .returned (.bool (decide ((58 : UInt8) ∈ S.data.toList))) ∧ w = w') at CI
            have c10 : w2.cell? ⟨w0.heap.size + 1, 0, none⟩ = some (.string E) := K1.out.cell 0
            have c11 : w2.cell? ⟨w0.heap.size + 1, 1, none⟩ = some (.string S) := K1.out.cell 1
            have c12 : w2.cell? ⟨w0.heap.size + 1, 2, none⟩ = some (.string ⟨#[]⟩) := K1.out.cell 2
            have hg1 := K1.out.lt
            have f10 := K1.out.free 0
            have f11 := K1.out.free 1
            have f12 := K1.out.free 2
            have hg0 := K0.out.lt
            have c0 : w2.cell? ⟨w0.heap.size, 0, none⟩ = some (.string ⟨#[]⟩) := K0.out.cell 0
            have c1 : w2.cell? ⟨w0.heap.size, 1, none⟩ = some (.string ⟨#[]⟩) := K0.out.cell 1
            have c2 : w2.cell? ⟨w0.heap.size, 2, none⟩ = some (.string ⟨#[]⟩) := K0.out.cell 2
            have f0 := K0.out.free 0
            have f1 := K0.out.free 1
            have f2 := K0.out.free 2
            by_cases zv : (S.extract 0 k).size = 0
            ·have HV := hQQ (HP.out.trans (acQ3 HB0.out HJ.out (.inl (by rw [← LV.out]; exact abQe zv))))
             have z1 : (S.extract 0 k).toList.isEmpty = true := by rw [ByteArray.toList_eq, abQe zv]; rfl
             have z2 : (S.extract 0 k).toList = [] := by rw [ByteArray.toList_eq, abQe zv]
             clear HP LV LR HJ CI
             go_wp2_with fail
             refine bodyPost_ret (v := .tuple #[.agg #[.string ⟨#[]⟩, .string ⟨#[]⟩, .string ⟨#[]⟩], .int .i64 30]) (by simp [results, Tryz.results113, go_sem, hg0, c0, c1, c2, f0, f1, f2]) rfl (PPost.mk_none HV.out ?_)
             exact ((((HB.out.setCell (by simp) _).setCell (by simp) _).setCell (Nat.le_refl _) _).setCell (Nat.le_refl _) _).setCell (Nat.le_refl _) _
            ·obtain ⟨z1, z2, z3⟩ := abQg zv
             by_cases hx : (58 : UInt8) ∈ S.data.toList
             ·have HV := hQQ (HP.out.trans (adQl hx))
              rw [decide_eq_true hx] at CI
              clear hx
              go_wp2_with fail
              refine (CI.out _).mono ?_
              rintro e w4 ⟨rfl, rfl⟩
              go_wp2_with fail
              refine bodyPost_ret (v := .tuple #[.agg #[.string ⟨#[]⟩, .string ⟨#[]⟩, .string ⟨#[]⟩], .int .i64 30]) (by simp [results, Tryz.results113, go_sem, hg0, c0, c1, c2, f0, f1, f2]) rfl (PPost.mk_none HV.out ?_)
              exact ((((HB.out.setCell (by simp) _).setCell (by simp) _).setCell (Nat.le_refl _) _).setCell (Nat.le_refl _) _).setCell (Nat.le_refl _) _
             ·have HV : Hid (parse s0.data.toList = some ⟨(E : ByteArray).data.toList, (S.extract 0 k).data.toList, (S.extract (k + 1) S.size).data.toList⟩) := by
               show _ = _
               rw [HP.out, agQu hx HB0.out HJ.out, if_neg (by rw [← LV.out, ← LR.out]; exact fun h => h.elim z3 y3), LV.out, LR.out]
               try rfl
              rw [decide_eq_false hx] at CI
              clear hx
              go_wp2_with fail
              refine (CI.out _).mono ?_
              rintro e w4 ⟨rfl, rfl⟩
              go_wp2_with fail
              refine bodyPost_ret (v := .tuple #[.agg #[.string E, .string (S.extract 0 k), .string (S.extract (k + 1) S.size)], .int .i64 0]) (by simp [results, Tryz.results113, go_sem, hg0, c0, c1, c2, f0, f1, f2]) rfl (PPost.mk_some HV.out ?_)
              exact ((((HB.out.setCell (by simp) _).setCell (by simp) _).setCell (Nat.le_refl _) _).setCell (Nat.le_refl _) _).setCell (Nat.le_refl _) _
          ·obtain ⟨t1, t2⟩ := aaQ6 (n := 45) rfl hc
           have HN : Hid (∀ j : Nat, (k : Int) - 1 < (j : Int) → j < S.data.toList.length → S.data.toList[j]? ≠ some (45 : UInt8)) := by
            intro j h1 h2
            by_cases hj : j = k
            ·subst hj
             rw [HB0.out]
             exact fun h => hc (Option.some.inj h)
            ·exact hd.out j (by omega) h2
           clear hc hd
           go_wp2_with fail
           go_round
           case rel => exact ⟨(k : Int) - 1, rfl, by omega, by omega, HN.out⟩
           case measure => (simp [intOf]) <;> omega
     ·obtain ⟨t1, t2⟩ := aaQ6 (n := 58) rfl hc
      have HN : Hid (∀ j, j < k + 1 → s0.data.toList[j]? ≠ some (58 : UInt8)) := by
       intro j h1
       by_cases hj : j = k
       ·subst hj
        rw [HB0.out]
        exact fun h => hc (Option.some.inj h)
       ·exact hn.out j (by omega)
      clear hc hn
      go_wp2_with fail
      go_round
      case rel => exact ⟨k + 1, rfl, by omega, by go_num, HN.out⟩
      case measure => (simp [intOf]) <;> omega
    ·have HP : Hid (parse s0.data.toList = vr (⟨#[]⟩ : ByteArray).data.toList s0.data.toList) := aiQ6 HG.out (fun j hj => hn.out j (by rw [aaQd] at hj; omega))
     have zq := hQQ h1s
     clear hn HG
     have c10 : w1.cell? ⟨w0.heap.size + 1, 0, none⟩ = some (.string ⟨#[]⟩) := K1.out.cell 0
     have c11 : w1.cell? ⟨w0.heap.size + 1, 1, none⟩ = some (.string ⟨#[]⟩) := K1.out.cell 1
     have c12 : w1.cell? ⟨w0.heap.size + 1, 2, none⟩ = some (.string ⟨#[]⟩) := K1.out.cell 2
     have hg1 := K1.out.lt
     have f10 := K1.out.free 0
     have f11 := K1.out.free 1
     have f12 := K1.out.free 2
     go_wp2_with fail
     clear hg1 f10 f11 f12 c10 c11 c12
     have K0_ : Hid (Blk (w1.setCell ⟨w0.heap.size + 1, 1, none⟩ (.string s0)) w0.heap.size 101 #[Value.string ⟨#[]⟩, .string ⟨#[]⟩, .string ⟨#[]⟩]) := (K0.out.far (by simp) _)
     have K1_ : Hid (Blk (w1.setCell ⟨w0.heap.size + 1, 1, none⟩ (.string s0)) (w0.heap.size + 1) 101 #[Value.string ⟨#[]⟩, .string s0, .string ⟨#[]⟩]) := (K1.out.set_ 1 _)
     have HB_ : Hid (Below w0.heap.size w0 (w1.setCell ⟨w0.heap.size + 1, 1, none⟩ (.string s0))) := (HB.out.setCell (by simp) _)
     clear K0 K1 HB
     have K0 := hQQ K0_.out
     have K1 := hQQ K1_.out
     have HB := hQQ HB_.out
     clear K0_ K1_ HB_
     generalize (w1.setCell ⟨w0.heap.size + 1, 1, none⟩ (.string s0)) = w2 at *
     go_loop [8] (fun i => ∃ n : Int, i = .int .i64 n ∧ -1 ≤ n ∧ n < (s0.size : Int) ∧ Hid (∀ j : Nat, n < (j : Int) → j < s0.data.toList.length → s0.data.toList[j]? ≠ some (45 : UInt8))) (fun i => (intOf i + 1).toNat)
     case atStart => exact ⟨_, rfl, by have := zq.out; omega, by have := zq.out; omega, show ∀ j : Nat, _ from fun j h1 h2 => by have := zq.out; rw [aaQd] at h2; omega⟩
     case round =>
      obtain ⟨n, rfl, n0, n1, hd⟩ := hrel
      clear zq
      by_cases hz : n < 0
      ·obtain rfl : n = -1 := by omega
       have HD := hQQ (no_at (fun j hj => hd.out j (by omega) hj))
       clear hd hz n0 n1
       have ze : ¬ s0.size = 0 := by omega
       obtain ⟨z1, z2, z3⟩ := abQg ze
       have c10 : w2.cell? ⟨w0.heap.size + 1, 0, none⟩ = some (.string ⟨#[]⟩) := K1.out.cell 0
       have c11 : w2.cell? ⟨w0.heap.size + 1, 1, none⟩ = some (.string s0) := K1.out.cell 1
       have c12 : w2.cell? ⟨w0.heap.size + 1, 2, none⟩ = some (.string ⟨#[]⟩) := K1.out.cell 2
       have hg1 := K1.out.lt
       have f10 := K1.out.free 0
       have f11 := K1.out.free 1
       have f12 := K1.out.free 2
       have CI := hQQ (fun w => adQ2 58 s0 (by unfold maxLen; omega) w)
       change Hid (∀ w, Calls Tryz.prog 174 #[.int .u8 58, .string s0] w fun e w' => e = .returned (.bool (decide ((58 : UInt8) ∈ s0.data.toList))) ∧ w = w') at CI
       by_cases hx : (58 : UInt8) ∈ s0.data.toList
       ·have HV := hQQ (HP.out.trans (adQl hx))
        rw [decide_eq_true hx] at CI
        clear hx
        go_wp2_with fail
        refine (CI.out _).mono ?_
        rintro e w4 ⟨rfl, rfl⟩
        have hg0 := K0.out.lt
        have c0 : w2.cell? ⟨w0.heap.size, 0, none⟩ = some (.string ⟨#[]⟩) := K0.out.cell 0
        have c1 : w2.cell? ⟨w0.heap.size, 1, none⟩ = some (.string ⟨#[]⟩) := K0.out.cell 1
        have c2 : w2.cell? ⟨w0.heap.size, 2, none⟩ = some (.string ⟨#[]⟩) := K0.out.cell 2
        have f0 := K0.out.free 0
        have f1 := K0.out.free 1
        have f2 := K0.out.free 2
        go_wp2_with fail
        refine bodyPost_ret (v := .tuple #[.agg #[.string ⟨#[]⟩, .string ⟨#[]⟩, .string ⟨#[]⟩], .int .i64 30]) (by simp [results, Tryz.results113, go_sem, hg0, c0, c1, c2, f0, f1, f2]) rfl (PPost.mk_none HV.out ?_)
        exact ((HB.out.setCell (Nat.le_refl _) _).setCell (Nat.le_refl _) _).setCell (Nat.le_refl _) _
       ·have HV := hQQ (HP.out.trans ((aeQg hx HD.out).trans (if_neg z3)))
        rw [decide_eq_false hx] at CI
        clear hx
        go_wp2_with fail
        refine (CI.out _).mono ?_
        rintro e w4 ⟨rfl, rfl⟩
        have hg0 := K0.out.lt
        have c0 : w2.cell? ⟨w0.heap.size, 0, none⟩ = some (.string ⟨#[]⟩) := K0.out.cell 0
        have c1 : w2.cell? ⟨w0.heap.size, 1, none⟩ = some (.string ⟨#[]⟩) := K0.out.cell 1
        have c2 : w2.cell? ⟨w0.heap.size, 2, none⟩ = some (.string ⟨#[]⟩) := K0.out.cell 2
        have f0 := K0.out.free 0
        have f1 := K0.out.free 1
        have f2 := K0.out.free 2
        go_wp2_with fail
        refine bodyPost_ret (v := .tuple #[.agg #[.string ⟨#[]⟩, .string s0, .string ⟨#[]⟩], .int .i64 0]) (by simp [results, Tryz.results113, go_sem, hg0, c0, c1, c2, f0, f1, f2]) rfl (PPost.mk_some HV.out ?_)
        exact ((HB.out.setCell (Nat.le_refl _) _).setCell (Nat.le_refl _) _).setCell (Nat.le_refl _) _
      ·obtain ⟨k, rfl⟩ := Int.eq_ofNat_of_zero_le (a := n) (by omega)
       have hlt : k < s0.size := by omega
       have HB0 := hQQ (aaQw hlt)
       have x1 : (0 : Int) ≤ (k : Int) := by omega
       have x2 : (k : Int) + 1 ≤ (s0.size : Int) := by omega
       have x3 : (k : Int) ≤ (s0.size : Int) := by omega
       have x4 : (s0.size : Int) ≤ 60 := by omega
       by_cases hc : s0[k] = 45
       ·obtain ⟨t1, t2⟩ := abQu (n := 45) rfl hc
        rw [hc] at HB0
        have HJ : Hid (∀ j, k < j → j < s0.data.toList.length → s0.data.toList[j]? ≠ some (45 : UInt8)) := fun j h1 h2 => hd.out j (by omega) h2
        have LV : Hid ((s0.extract 0 k).data.toList = s0.data.toList.take k) := acQa _ _
        have LR : Hid ((s0.extract (k + 1) s0.size).data.toList = s0.data.toList.drop (k + 1)) := acQ9 _ _
        clear hc hd hz n0 n1
        by_cases zr : (s0.extract (k + 1) s0.size).size = 0
        ·have HV := hQQ (HP.out.trans (acQ3 HB0.out HJ.out (.inr (by rw [← LR.out]; exact abQe zr))))
         have z1 : (s0.extract (k + 1) s0.size).toList.isEmpty = true := by rw [ByteArray.toList_eq, abQe zr]; rfl
         have z2 : (s0.extract (k + 1) s0.size).toList = [] := by rw [ByteArray.toList_eq, abQe zr]
         clear HP LV LR HJ
         have c10 : w2.cell? ⟨w0.heap.size + 1, 0, none⟩ = some (.string ⟨#[]⟩) := K1.out.cell 0
         have c11 : w2.cell? ⟨w0.heap.size + 1, 1, none⟩ = some (.string s0) := K1.out.cell 1
         have c12 : w2.cell? ⟨w0.heap.size + 1, 2, none⟩ = some (.string ⟨#[]⟩) := K1.out.cell 2
         have hg1 := K1.out.lt
         have f10 := K1.out.free 0
         have f11 := K1.out.free 1
         have f12 := K1.out.free 2
         have hg0 := K0.out.lt
         have c0 : w2.cell? ⟨w0.heap.size, 0, none⟩ = some (.string ⟨#[]⟩) := K0.out.cell 0
         have c1 : w2.cell? ⟨w0.heap.size, 1, none⟩ = some (.string ⟨#[]⟩) := K0.out.cell 1
         have c2 : w2.cell? ⟨w0.heap.size, 2, none⟩ = some (.string ⟨#[]⟩) := K0.out.cell 2
         have f0 := K0.out.free 0
         have f1 := K0.out.free 1
         have f2 := K0.out.free 2
         go_wp2_with fail
         refine bodyPost_ret (v := .tuple #[.agg #[.string ⟨#[]⟩, .string ⟨#[]⟩, .string ⟨#[]⟩], .int .i64 30]) (by simp [results, Tryz.results113, go_sem, hg0, c0, c1, c2, f0, f1, f2]) rfl (PPost.mk_none HV.out ?_)
         exact ((((HB.out.setCell (by simp) _).setCell (by simp) _).setCell (Nat.le_refl _) _).setCell (Nat.le_refl _) _).setCell (Nat.le_refl _) _
        ·obtain ⟨y1, y2, y3⟩ := abQg zr
         have CI := hQQ (fun w => adQ2 58 s0 (by unfold maxLen; omega) w)
         change Hid (∀ w, Calls Tryz.prog 174 #[.int .u8 58, .string s0] w fun e w' => e = .returned (.bool (decide ((58 : UInt8) ∈ s0.data.toList))) ∧ w = w') at CI
         have c10 : w2.cell? ⟨w0.heap.size + 1, 0, none⟩ = some (.string ⟨#[]⟩) := K1.out.cell 0
         have c11 : w2.cell? ⟨w0.heap.size + 1, 1, none⟩ = some (.string s0) := K1.out.cell 1
         have c12 : w2.cell? ⟨w0.heap.size + 1, 2, none⟩ = some (.string ⟨#[]⟩) := K1.out.cell 2
         have hg1 := K1.out.lt
         have f10 := K1.out.free 0
         have f11 := K1.out.free 1
         have f12 := K1.out.free 2
         have hg0 := K0.out.lt
         have c0 : w2.cell? ⟨w0.heap.size, 0, none⟩ = some (.string ⟨#[]⟩) := K0.out.cell 0
         have c1 : w2.cell? ⟨w0.heap.size, 1, none⟩ = some (.string ⟨#[]⟩) := K0.out.cell 1
         have c2 : w2.cell? ⟨w0.heap.size, 2, none⟩ = some (.string ⟨#[]⟩) := K0.out.cell 2
         have f0 := K0.out.free 0
         have f1 := K0.out.free 1
         have f2 := K0.out.free 2
         by_cases zv : (s0.extract 0 k).size = 0
         ·have HV := hQQ (HP.out.trans (acQ3 HB0.out HJ.out (.inl (by rw [← LV.out]; exact abQe zv))))
          have z1 : (s0.extract 0 k).toList.isEmpty = true := by rw [ByteArray.toList_eq, abQe zv]; rfl
          have z2 : (s0.extract 0 k).toList = [] := by rw [ByteArray.toList_eq, abQe zv]
          clear HP LV LR HJ CI
          go_wp2_with fail
          refine bodyPost_ret (v := .tuple #[.agg #[.string ⟨#[]⟩, .string ⟨#[]⟩, .string ⟨#[]⟩], .int .i64 30]) (by simp [results, Tryz.results113, go_sem, hg0, c0, c1, c2, f0, f1, f2]) rfl (PPost.mk_none HV.out ?_)
          exact ((((HB.out.setCell (by simp) _).setCell (by simp) _).setCell (Nat.le_refl _) _).setCell (Nat.le_refl _) _).setCell (Nat.le_refl _) _
         ·obtain ⟨z1, z2, z3⟩ := abQg zv
          by_cases hx : (58 : UInt8) ∈ s0.data.toList
          ·have HV := hQQ (HP.out.trans (adQl hx))
           rw [decide_eq_true hx] at CI
           clear hx
           go_wp2_with fail
           refine (CI.out _).mono ?_
           rintro e w4 ⟨rfl, rfl⟩
           go_wp2_with fail
           refine bodyPost_ret (v := .tuple #[.agg #[.string ⟨#[]⟩, .string ⟨#[]⟩, .string ⟨#[]⟩], .int .i64 30]) (by simp [results, Tryz.results113, go_sem, hg0, c0, c1, c2, f0, f1, f2]) rfl (PPost.mk_none HV.out ?_)
           exact ((((HB.out.setCell (by simp) _).setCell (by simp) _).setCell (Nat.le_refl _) _).setCell (Nat.le_refl _) _).setCell (Nat.le_refl _) _
          ·have HV : Hid (parse s0.data.toList = some ⟨(⟨#[]⟩ : ByteArray).data.toList, (s0.extract 0 k).data.toList, (s0.extract (k + 1) s0.size).data.toList⟩) := by
            show _ = _
            rw [HP.out, agQu hx HB0.out HJ.out, if_neg (by rw [← LV.out, ← LR.out]; exact fun h => h.elim z3 y3), LV.out, LR.out]
            try rfl
           rw [decide_eq_false hx] at CI
           clear hx
           go_wp2_with fail
           refine (CI.out _).mono ?_
           rintro e w4 ⟨rfl, rfl⟩
           go_wp2_with fail
           refine bodyPost_ret (v := .tuple #[.agg #[.string ⟨#[]⟩, .string (s0.extract 0 k), .string (s0.extract (k + 1) s0.size)], .int .i64 0]) (by simp [results, Tryz.results113, go_sem, hg0, c0, c1, c2, f0, f1, f2]) rfl (PPost.mk_some HV.out ?_)
           exact ((((HB.out.setCell (by simp) _).setCell (by simp) _).setCell (Nat.le_refl _) _).setCell (Nat.le_refl _) _).setCell (Nat.le_refl _) _
       ·obtain ⟨t1, t2⟩ := aaQ6 (n := 45) rfl hc
        have HN : Hid (∀ j : Nat, (k : Int) - 1 < (j : Int) → j < s0.data.toList.length → s0.data.toList[j]? ≠ some (45 : UInt8)) := by
         intro j h1 h2
         by_cases hj : j = k
         ·subst hj
          rw [HB0.out]
          exact fun h => hc (Option.some.inj h)
         ·exact hd.out j (by omega) h2
        clear hc hd
        go_wp2_with fail
        go_round
        case rel => exact ⟨(k : Int) - 1, rfl, by omega, by omega, HN.out⟩
        case measure => (simp [intOf]) <;> omega
end Go.Proofs.YtdhgiammfpjniaaGreatDoor.Ev
