/- The document's answer: a version taken apart. Words in a table: (table).number; between; must. Whether a text may be a name. -/
import Derived.Test.YtpmfmkpfjomgnaaGreatDoorZae
import Derived.Test.YtpmfmkpfjomgnaaGreatDoorZac
/- The document's answer: a version taken apart. -/
namespace Go.Proofs.YtpmfmkpfjomgnaaGreatDoor
set_option linter.unusedSimpArgs false
set_option linter.unusedVariables false
open Go.RowKit

def PPost (w0 : World) (o : Option Parts) (e : Ending) (w : World) : Prop := e = .returned (.tuple #[evrV o, .int .i64 (errV o)]) ∧ Below w0.heap.size w0 w
theorem PPost.mk_none {w0 w : World} {o : Option Parts} (h : o = none) (hb : Below w0.heap.size w0 w) : PPost w0 o (.returned (.tuple #[.agg #[.string ⟨#[]⟩, .string ⟨#[]⟩, .string ⟨#[]⟩], .int .i64 30])) w := by
  subst h; exact ⟨rfl, hb⟩
theorem PPost.mk_some {w0 w : World} {o : Option Parts} {e v r : ByteArray} (h : o = some ⟨e.data.toList, v.data.toList, r.data.toList⟩) (hb : Below w0.heap.size w0 w) : PPost w0 o (.returned (.tuple #[.agg #[.string e, .string v, .string r], .int .i64 0])) w := by
  subst h; exact ⟨rfl, hb⟩
theorem parse_may {l : List UInt8} (h : mayB l = false) : parse l = none := by
  by_cases hg : l.length ≤ 60 ∧ l.all isMay = true
  · unfold mayB at h
    rw [hg.2, decide_eq_true hg.1] at h
    simp at h
    subst h
    rfl
  · exact parse_bad hg
theorem may_yes {l : List UInt8} (h : mayB l = true) : (l.length ≤ 60 ∧ l.all isMay = true) ∧ 1 ≤ l.length := by
  unfold mayB at h
  simp only [Bool.and_eq_true, decide_eq_true_eq] at h
  exact ⟨⟨h.2, h.1.1⟩, h.1.2⟩
theorem parse_at {l : List UInt8} (h : l.length ≤ 60 ∧ l.all isMay = true) {k : Nat} (hk : l[k]? = some (58 : UInt8)) (hn : ∀ j, j < k → l[j]? ≠ some (58 : UInt8)) :
    parse l = if digB (l.take k) = true then vr (l.take k) (l.drop (k + 1)) else none := by
  unfold parse
  rw [if_pos h, cutAt_at hk hn]
  simp only
  have e1 : (l.take k ≠ []) ↔ 1 ≤ (l.take k).length := by rw [← List.length_pos_iff]; exact Iff.rfl
  unfold digB
  by_cases hx : l.take k ≠ [] ∧ (l.take k).length ≤ 9 ∧ (l.take k).all isDg = true
  · rw [if_pos hx, if_pos (by rw [hx.2.2, decide_eq_true hx.2.1, decide_eq_true (e1.1 hx.1)]; rfl)]
  · rw [if_neg hx, if_neg (fun hy => hx (by
      simp only [Bool.and_eq_true, decide_eq_true_eq] at hy
      exact ⟨e1.2 hy.1.2, hy.2, hy.1.1⟩))]
theorem parse_none_at {l : List UInt8} (h : l.length ≤ 60 ∧ l.all isMay = true) (hn : ∀ j, j < l.length → l[j]? ≠ some (58 : UInt8)) : parse l = vr [] l :=
  parse_plain h (fun hm => by
    obtain ⟨j, hj, e⟩ := List.mem_iff_getElem.1 hm
    exact hn j hj (by rw [List.getElem?_eq_getElem hj, e]))
theorem no_at {l : List UInt8} {c : UInt8} (hn : ∀ j : Nat, j < l.length → l[j]? ≠ some c) : c ∉ l := fun hm => by
  obtain ⟨j, hj, e⟩ := List.mem_iff_getElem.1 hm
  exact hn j hj (by rw [List.getElem?_eq_getElem hj, e])
theorem vr_nil {e : List UInt8} : vr e [] = none := rfl
theorem u8_hit {c : UInt8} {d : UInt8} {n : Int} (hn : (d.toNat : Int) = n) (h : c = d) : ((c.toNat : Int) == n) = true ∧ ((c.toNat : Int) != n) = false := by
  subst h; subst hn; simp
theorem u8_miss {c : UInt8} {d : UInt8} {n : Int} (hn : (d.toNat : Int) = n) (h : ¬ c = d) : ((c.toNat : Int) == n) = false ∧ ((c.toNat : Int) != n) = true := by
  have : ¬ (c.toNat : Int) = n := fun e => h (UInt8.toNat_inj.1 (by omega))
  exact ⟨beq_eq_false_iff_ne.2 this, by simp [bne, beq_eq_false_iff_ne.2 this]⟩
theorem blank_of {s : ByteArray} (h : s.size ≠ 0) : s.toList.isEmpty = false ∧ ¬ s.toList = [] ∧ s.data.toList ≠ [] := by
  have hp : 0 < s.size := by omega
  refine ⟨toList_cons hp, ?_, ?_⟩
  · intro e; have := toList_cons hp; rw [e] at this; cases this
  · intro e; have := size_len s; rw [e] at this; simp at this; omega

set_option maxHeartbeats 16000000 in
set_option maxRecDepth 1000000 in
theorem refParse_any (s0 : ByteArray) (hs0 : s0.size ≤ maxLen) (w0 : World) :
    Calls Tryz.prog 91 #[.string s0] w0 (PPost w0 (parse s0.data.toList)) := by
  have CM := Lib.hid (fun w => refMay_any s0 hs0 w)
  unfold maxLen at hs0
  cases hm : mayB s0.data.toList with
  | false =>
    have HP := Lib.hid (parse_may hm)
    rw [hm] at CM
    clear hm
    go_enter Tryz.func91, Tryz.ntmps91
    go_wp2_with fail
    refine (CM.out _).mono ?_
    rintro e w1 ⟨rfl, rfl⟩
    have K0 := Blk.new w0 143 #[Value.string ⟨#[]⟩, .string ⟨#[]⟩, .string ⟨#[]⟩]
    have HB : Hid (Below w0.heap.size w0 (w0.alloc (.cells #[.string ⟨#[]⟩, .string ⟨#[]⟩, .string ⟨#[]⟩] 143))) := (Below.refl _ _).alloc (Nat.le_refl _) _
    generalize w0.alloc (.cells #[.string ⟨#[]⟩, .string ⟨#[]⟩, .string ⟨#[]⟩] 143) = w1 at *
    have hlt := K0.lt
    have c0 : w1.cell? ⟨w0.heap.size, 0, none⟩ = some (.string ⟨#[]⟩) := K0.cell 0
    have c1 : w1.cell? ⟨w0.heap.size, 1, none⟩ = some (.string ⟨#[]⟩) := K0.cell 1
    have c2 : w1.cell? ⟨w0.heap.size, 2, none⟩ = some (.string ⟨#[]⟩) := K0.cell 2
    have f0 := K0.free 0
    have f1 := K0.free 1
    have f2 := K0.free 2
    clear K0
    go_wp2_with fail
    refine bodyPost_ret (v := .tuple #[.agg #[.string ⟨#[]⟩, .string ⟨#[]⟩, .string ⟨#[]⟩], .int .i64 30]) (by simp [results, Tryz.results91, go_sem, hlt, c0, c1, c2, f0, f1, f2]) rfl (PPost.mk_none HP.out ?_)
    exact ((HB.out.setCell (Nat.le_refl _) _).setCell (Nat.le_refl _) _).setCell (Nat.le_refl _) _
  | true =>
    have hy := may_yes hm
    have HG := Lib.hid hy.1
    have hsz : s0.size ≤ 60 := by rw [← size_len]; exact hy.1.1
    have h1s : 1 ≤ s0.size := by rw [← size_len]; exact hy.2
    rw [hm] at CM
    clear hm hy
    go_enter Tryz.func91, Tryz.ntmps91
    go_wp2_with fail
    refine (CM.out _).mono ?_
    rintro e w1 ⟨rfl, rfl⟩
    go_wp2_with fail
    have K0 := Lib.hid ((Blk.new w0 143 #[Value.string ⟨#[]⟩, .string ⟨#[]⟩, .string ⟨#[]⟩]).alloc (.cells #[.string ⟨#[]⟩, .string ⟨#[]⟩, .string ⟨#[]⟩] 143))
    have K1 := Lib.hid (Blk.new' (w := w0.alloc (.cells #[.string ⟨#[]⟩, .string ⟨#[]⟩, .string ⟨#[]⟩] 143)) (g := w0.heap.size + 1) (t := 143) (cs := #[Value.string ⟨#[]⟩, .string ⟨#[]⟩, .string ⟨#[]⟩]) (by simp))
    have HB : Hid (Below w0.heap.size w0 ((w0.alloc (.cells #[.string ⟨#[]⟩, .string ⟨#[]⟩, .string ⟨#[]⟩] 143)).alloc (.cells #[.string ⟨#[]⟩, .string ⟨#[]⟩, .string ⟨#[]⟩] 143))) := ((Below.refl _ _).alloc (Nat.le_refl _) _).alloc (by simp) _
    generalize (w0.alloc (.cells #[.string ⟨#[]⟩, .string ⟨#[]⟩, .string ⟨#[]⟩] 143)).alloc (.cells #[.string ⟨#[]⟩, .string ⟨#[]⟩, .string ⟨#[]⟩] 143) = w1 at *
    clear CM
    go_loop [0, 6] (fun v i => ∃ k : Nat, v = .string s0 ∧ k ≤ s0.size ∧ i = .int .i64 (k : Int) ∧ Hid (∀ j, j < k → s0.data.toList[j]? ≠ some (58 : UInt8))) (fun _ i => s0.size - (intOf i).toNat)
    case atStart => exact ⟨0, rfl, Nat.zero_le _, rfl, show ∀ j, j < 0 → _ from fun j hj => absurd hj (Nat.not_lt_zero _)⟩
    case round =>
      obtain ⟨k, rfl, hk, rfl, hn⟩ := hrel
      by_cases hlt : k < s0.size
      · have HB0 := Lib.hid (byte_at hlt)
        have x0 : (k : Int) < (s0.size : Int) := by omega
        have x2 : (k : Int) + 1 ≤ (s0.size : Int) := by omega
        have x3 : (k : Int) ≤ (s0.size : Int) := by omega
        have x4 : (s0.size : Int) ≤ 60 := by omega
        by_cases hc : s0[k] = 58
        · obtain ⟨t1, t2⟩ := u8_hit (n := 58) rfl hc
          rw [hc] at HB0
          have LE : Hid ((s0.extract 0 k).data.toList = s0.data.toList.take k) := bl_upto _ _
          have LS : Hid ((s0.extract (k + 1) s0.size).data.toList = s0.data.toList.drop (k + 1)) := bl_from _ _
          have HP0 := Lib.hid (parse_at HG.out HB0.out hn.out)
          have CD := Lib.hid (fun w => refDigits_any (s0.extract 0 k) (by simp; unfold maxLen; omega) w)
          rw [LE.out] at CD
          cases hdg : digB (s0.data.toList.take k) with
          | false =>
            have HV : Hid (parse s0.data.toList = none) := by show _ = _; rw [HP0.out, hdg]; rfl
            rw [hdg] at CD
            clear hdg HP0 hn HB0 hc LE LS
            go_wp2_with fail
            refine (CD.out _).mono ?_
            rintro e w2 ⟨rfl, rfl⟩
            have hg0 := K0.out.lt
            have c0 : w1.cell? ⟨w0.heap.size, 0, none⟩ = some (.string ⟨#[]⟩) := K0.out.cell 0
            have c1 : w1.cell? ⟨w0.heap.size, 1, none⟩ = some (.string ⟨#[]⟩) := K0.out.cell 1
            have c2 : w1.cell? ⟨w0.heap.size, 2, none⟩ = some (.string ⟨#[]⟩) := K0.out.cell 2
            have f0 := K0.out.free 0
            have f1 := K0.out.free 1
            have f2 := K0.out.free 2
            go_wp2_with fail
            refine bodyPost_ret (v := .tuple #[.agg #[.string ⟨#[]⟩, .string ⟨#[]⟩, .string ⟨#[]⟩], .int .i64 30]) (by simp [results, Tryz.results91, go_sem, hg0, c0, c1, c2, f0, f1, f2]) rfl (PPost.mk_none HV.out ?_)
            exact ((HB.out.setCell (Nat.le_refl _) _).setCell (Nat.le_refl _) _).setCell (Nat.le_refl _) _
          | true =>
            have HP : Hid (parse s0.data.toList = vr (s0.extract 0 k).data.toList (s0.extract (k + 1) s0.size).data.toList) := by show _ = _; rw [HP0.out, hdg, if_pos rfl, LE.out, LS.out]
            rw [hdg] at CD
            have z0 : (s0.extract 0 k).size ≤ 60 := by simp; omega
            have zs : (s0.extract (k + 1) s0.size).size ≤ 60 := by simp; omega
            have zq := Lib.hid (show (s0.extract (k + 1) s0.size).size = s0.size - (k + 1) by simp)
            clear hdg HP0 hn HB0 hc LE LS HG
            go_wp2_with fail
            refine (CD.out _).mono ?_
            rintro e w2 ⟨rfl, rfl⟩
            have c10 : w1.cell? ⟨w0.heap.size + 1, 0, none⟩ = some (.string ⟨#[]⟩) := K1.out.cell 0
            have c11 : w1.cell? ⟨w0.heap.size + 1, 1, none⟩ = some (.string ⟨#[]⟩) := K1.out.cell 1
            have c12 : w1.cell? ⟨w0.heap.size + 1, 2, none⟩ = some (.string ⟨#[]⟩) := K1.out.cell 2
            have hg1 := K1.out.lt
            have f10 := K1.out.free 0
            have f11 := K1.out.free 1
            have f12 := K1.out.free 2
            go_wp2_with fail
            clear hg1 f10 f11 f12 c10 c11 c12
            have K0_ : Hid (Blk ((w1.setCell ⟨w0.heap.size + 1, 0, none⟩ (.string (s0.extract 0 k))).setCell ⟨w0.heap.size + 1, 1, none⟩ (.string (s0.extract (k + 1) s0.size))) w0.heap.size 143 #[Value.string ⟨#[]⟩, .string ⟨#[]⟩, .string ⟨#[]⟩]) := ((K0.out.far (by simp) _).far (by simp) _)
            have K1_ : Hid (Blk ((w1.setCell ⟨w0.heap.size + 1, 0, none⟩ (.string (s0.extract 0 k))).setCell ⟨w0.heap.size + 1, 1, none⟩ (.string (s0.extract (k + 1) s0.size))) (w0.heap.size + 1) 143 #[Value.string (s0.extract 0 k), .string (s0.extract (k + 1) s0.size), .string ⟨#[]⟩]) := ((K1.out.set_ 0 _).set_ 1 _)
            have HB_ : Hid (Below w0.heap.size w0 ((w1.setCell ⟨w0.heap.size + 1, 0, none⟩ (.string (s0.extract 0 k))).setCell ⟨w0.heap.size + 1, 1, none⟩ (.string (s0.extract (k + 1) s0.size)))) := ((HB.out.setCell (by simp) _).setCell (by simp) _)
            clear K0 K1 HB
            have K0 := Lib.hid K0_.out
            have K1 := Lib.hid K1_.out
            have HB := Lib.hid HB_.out
            clear K0_ K1_ HB_
            generalize ((w1.setCell ⟨w0.heap.size + 1, 0, none⟩ (.string (s0.extract 0 k))).setCell ⟨w0.heap.size + 1, 1, none⟩ (.string (s0.extract (k + 1) s0.size))) = w2 at *
            generalize s0.extract 0 k = E at *
            generalize s0.extract (k + 1) s0.size = S at *
            go_loop [8] (fun i => ∃ n : Int, i = .int .i64 n ∧ -1 ≤ n ∧ n < (S.size : Int) ∧ Hid (∀ j : Nat, n < (j : Int) → j < S.data.toList.length → S.data.toList[j]? ≠ some (45 : UInt8))) (fun i => (intOf i + 1).toNat)
            case atStart => exact ⟨_, rfl, by have := zq.out; omega, by have := zq.out; omega, show ∀ j : Nat, _ from fun j h1 h2 => by have := zq.out; rw [size_len] at h2; omega⟩
            case round =>
              obtain ⟨n, rfl, n0, n1, hd⟩ := hrel
              clear zq
              by_cases hz : n < 0
              · obtain rfl : n = -1 := by omega
                have HD := Lib.hid (no_at (fun j hj => hd.out j (by omega) hj))
                clear hd hz n0 n1
                by_cases ze : S.size = 0
                · have HV : Hid (parse s0.data.toList = none) := by
                    show _ = _
                    rw [HP.out, list_nil ze]; rfl
                  have z1 : S.toList.isEmpty = true := by rw [ByteArray.toList_eq, list_nil ze]; rfl
                  have z2 : S.toList = [] := by rw [ByteArray.toList_eq, list_nil ze]
                  clear HP HD
                  have c10 : w2.cell? ⟨w0.heap.size + 1, 0, none⟩ = some (.string E) := K1.out.cell 0
                  have c11 : w2.cell? ⟨w0.heap.size + 1, 1, none⟩ = some (.string S) := K1.out.cell 1
                  have c12 : w2.cell? ⟨w0.heap.size + 1, 2, none⟩ = some (.string ⟨#[]⟩) := K1.out.cell 2
                  have hg1 := K1.out.lt
                  have f10 := K1.out.free 0
                  have f11 := K1.out.free 1
                  have f12 := K1.out.free 2
                  have hg0 := K0.out.lt
                  have c0 : w2.cell? ⟨w0.heap.size, 0, none⟩ = some (.string ⟨#[]⟩) := K0.out.cell 0
                  have c1 : w2.cell? ⟨w0.heap.size, 1, none⟩ = some (.string ⟨#[]⟩) := K0.out.cell 1
                  have c2 : w2.cell? ⟨w0.heap.size, 2, none⟩ = some (.string ⟨#[]⟩) := K0.out.cell 2
                  have f0 := K0.out.free 0
                  have f1 := K0.out.free 1
                  have f2 := K0.out.free 2
                  go_wp2_with fail
                  refine bodyPost_ret (v := .tuple #[.agg #[.string ⟨#[]⟩, .string ⟨#[]⟩, .string ⟨#[]⟩], .int .i64 30]) (by simp [results, Tryz.results91, go_sem, hg0, c0, c1, c2, f0, f1, f2]) rfl (PPost.mk_none HV.out ?_)
                  exact ((HB.out.setCell (Nat.le_refl _) _).setCell (Nat.le_refl _) _).setCell (Nat.le_refl _) _
                · obtain ⟨z1, z2, z3⟩ := blank_of ze
                  have c10 : w2.cell? ⟨w0.heap.size + 1, 0, none⟩ = some (.string E) := K1.out.cell 0
                  have c11 : w2.cell? ⟨w0.heap.size + 1, 1, none⟩ = some (.string S) := K1.out.cell 1
                  have c12 : w2.cell? ⟨w0.heap.size + 1, 2, none⟩ = some (.string ⟨#[]⟩) := K1.out.cell 2
                  have hg1 := K1.out.lt
                  have f10 := K1.out.free 0
                  have f11 := K1.out.free 1
                  have f12 := K1.out.free 2
                  have CI := Lib.hid (fun w => refIn_any 58 S (by unfold maxLen; omega) w)
                  change Hid (∀ w, Calls Tryz.prog 137 #[.int .u8 58, .string S] w fun e w' => e = .returned (.bool (decide ((58 : UInt8) ∈ S.data.toList))) ∧ w = w') at CI
                  by_cases hx : (58 : UInt8) ∈ S.data.toList
                  · have HV := Lib.hid (HP.out.trans (vr_colon hx))
                    rw [decide_eq_true hx] at CI
                    clear hx
                    go_wp2_with fail
                    refine (CI.out _).mono ?_
                    rintro e w4 ⟨rfl, rfl⟩
                    have hg0 := K0.out.lt
                    have c0 : w2.cell? ⟨w0.heap.size, 0, none⟩ = some (.string ⟨#[]⟩) := K0.out.cell 0
                    have c1 : w2.cell? ⟨w0.heap.size, 1, none⟩ = some (.string ⟨#[]⟩) := K0.out.cell 1
                    have c2 : w2.cell? ⟨w0.heap.size, 2, none⟩ = some (.string ⟨#[]⟩) := K0.out.cell 2
                    have f0 := K0.out.free 0
                    have f1 := K0.out.free 1
                    have f2 := K0.out.free 2
                    go_wp2_with fail
                    refine bodyPost_ret (v := .tuple #[.agg #[.string ⟨#[]⟩, .string ⟨#[]⟩, .string ⟨#[]⟩], .int .i64 30]) (by simp [results, Tryz.results91, go_sem, hg0, c0, c1, c2, f0, f1, f2]) rfl (PPost.mk_none HV.out ?_)
                    exact ((HB.out.setCell (Nat.le_refl _) _).setCell (Nat.le_refl _) _).setCell (Nat.le_refl _) _
                  · have HV := Lib.hid (HP.out.trans ((vr_plain hx HD.out).trans (if_neg z3)))
                    rw [decide_eq_false hx] at CI
                    clear hx
                    go_wp2_with fail
                    refine (CI.out _).mono ?_
                    rintro e w4 ⟨rfl, rfl⟩
                    have hg0 := K0.out.lt
                    have c0 : w2.cell? ⟨w0.heap.size, 0, none⟩ = some (.string ⟨#[]⟩) := K0.out.cell 0
                    have c1 : w2.cell? ⟨w0.heap.size, 1, none⟩ = some (.string ⟨#[]⟩) := K0.out.cell 1
                    have c2 : w2.cell? ⟨w0.heap.size, 2, none⟩ = some (.string ⟨#[]⟩) := K0.out.cell 2
                    have f0 := K0.out.free 0
                    have f1 := K0.out.free 1
                    have f2 := K0.out.free 2
                    go_wp2_with fail
                    refine bodyPost_ret (v := .tuple #[.agg #[.string E, .string S, .string ⟨#[]⟩], .int .i64 0]) (by simp [results, Tryz.results91, go_sem, hg0, c0, c1, c2, f0, f1, f2]) rfl (PPost.mk_some HV.out ?_)
                    exact ((HB.out.setCell (Nat.le_refl _) _).setCell (Nat.le_refl _) _).setCell (Nat.le_refl _) _
              · obtain ⟨k, rfl⟩ := Int.eq_ofNat_of_zero_le (a := n) (by omega)
                have hlt : k < S.size := by omega
                have HB0 := Lib.hid (byte_at hlt)
                have x1 : (0 : Int) ≤ (k : Int) := by omega
                have x2 : (k : Int) + 1 ≤ (S.size : Int) := by omega
                have x3 : (k : Int) ≤ (S.size : Int) := by omega
                have x4 : (S.size : Int) ≤ 60 := by omega
                by_cases hc : S[k] = 45
                · obtain ⟨t1, t2⟩ := u8_hit (n := 45) rfl hc
                  rw [hc] at HB0
                  have HJ : Hid (∀ j, k < j → j < S.data.toList.length → S.data.toList[j]? ≠ some (45 : UInt8)) := fun j h1 h2 => hd.out j (by omega) h2
                  have LV : Hid ((S.extract 0 k).data.toList = S.data.toList.take k) := bl_upto _ _
                  have LR : Hid ((S.extract (k + 1) S.size).data.toList = S.data.toList.drop (k + 1)) := bl_from _ _
                  clear hc hd hz n0 n1
                  by_cases zr : (S.extract (k + 1) S.size).size = 0
                  · have HV := Lib.hid (HP.out.trans (vr_empty HB0.out HJ.out (.inr (by rw [← LR.out]; exact list_nil zr))))
                    have z1 : (S.extract (k + 1) S.size).toList.isEmpty = true := by rw [ByteArray.toList_eq, list_nil zr]; rfl
                    have z2 : (S.extract (k + 1) S.size).toList = [] := by rw [ByteArray.toList_eq, list_nil zr]
                    clear HP LV LR HJ
                    have c10 : w2.cell? ⟨w0.heap.size + 1, 0, none⟩ = some (.string E) := K1.out.cell 0
                    have c11 : w2.cell? ⟨w0.heap.size + 1, 1, none⟩ = some (.string S) := K1.out.cell 1
                    have c12 : w2.cell? ⟨w0.heap.size + 1, 2, none⟩ = some (.string ⟨#[]⟩) := K1.out.cell 2
                    have hg1 := K1.out.lt
                    have f10 := K1.out.free 0
                    have f11 := K1.out.free 1
                    have f12 := K1.out.free 2
                    have hg0 := K0.out.lt
                    have c0 : w2.cell? ⟨w0.heap.size, 0, none⟩ = some (.string ⟨#[]⟩) := K0.out.cell 0
                    have c1 : w2.cell? ⟨w0.heap.size, 1, none⟩ = some (.string ⟨#[]⟩) := K0.out.cell 1
                    have c2 : w2.cell? ⟨w0.heap.size, 2, none⟩ = some (.string ⟨#[]⟩) := K0.out.cell 2
                    have f0 := K0.out.free 0
                    have f1 := K0.out.free 1
                    have f2 := K0.out.free 2
                    go_wp2_with fail
                    refine bodyPost_ret (v := .tuple #[.agg #[.string ⟨#[]⟩, .string ⟨#[]⟩, .string ⟨#[]⟩], .int .i64 30]) (by simp [results, Tryz.results91, go_sem, hg0, c0, c1, c2, f0, f1, f2]) rfl (PPost.mk_none HV.out ?_)
                    exact ((((HB.out.setCell (by simp) _).setCell (by simp) _).setCell (Nat.le_refl _) _).setCell (Nat.le_refl _) _).setCell (Nat.le_refl _) _
                  · obtain ⟨y1, y2, y3⟩ := blank_of zr
                    have CI := Lib.hid (fun w => refIn_any 58 S (by unfold maxLen; omega) w)
                    change Hid (∀ w, Calls Tryz.prog 137 #[.int .u8 58, .string S] w fun e w' => e = .returned (.bool (decide ((58 : UInt8) ∈ S.data.toList))) ∧ w = w') at CI
                    have c10 : w2.cell? ⟨w0.heap.size + 1, 0, none⟩ = some (.string E) := K1.out.cell 0
                    have c11 : w2.cell? ⟨w0.heap.size + 1, 1, none⟩ = some (.string S) := K1.out.cell 1
                    have c12 : w2.cell? ⟨w0.heap.size + 1, 2, none⟩ = some (.string ⟨#[]⟩) := K1.out.cell 2
                    have hg1 := K1.out.lt
                    have f10 := K1.out.free 0
                    have f11 := K1.out.free 1
                    have f12 := K1.out.free 2
                    have hg0 := K0.out.lt
                    have c0 : w2.cell? ⟨w0.heap.size, 0, none⟩ = some (.string ⟨#[]⟩) := K0.out.cell 0
                    have c1 : w2.cell? ⟨w0.heap.size, 1, none⟩ = some (.string ⟨#[]⟩) := K0.out.cell 1
                    have c2 : w2.cell? ⟨w0.heap.size, 2, none⟩ = some (.string ⟨#[]⟩) := K0.out.cell 2
                    have f0 := K0.out.free 0
                    have f1 := K0.out.free 1
                    have f2 := K0.out.free 2
                    by_cases zv : (S.extract 0 k).size = 0
                    · have HV := Lib.hid (HP.out.trans (vr_empty HB0.out HJ.out (.inl (by rw [← LV.out]; exact list_nil zv))))
                      have z1 : (S.extract 0 k).toList.isEmpty = true := by rw [ByteArray.toList_eq, list_nil zv]; rfl
                      have z2 : (S.extract 0 k).toList = [] := by rw [ByteArray.toList_eq, list_nil zv]
                      clear HP LV LR HJ CI
                      go_wp2_with fail
                      refine bodyPost_ret (v := .tuple #[.agg #[.string ⟨#[]⟩, .string ⟨#[]⟩, .string ⟨#[]⟩], .int .i64 30]) (by simp [results, Tryz.results91, go_sem, hg0, c0, c1, c2, f0, f1, f2]) rfl (PPost.mk_none HV.out ?_)
                      exact ((((HB.out.setCell (by simp) _).setCell (by simp) _).setCell (Nat.le_refl _) _).setCell (Nat.le_refl _) _).setCell (Nat.le_refl _) _
                    · obtain ⟨z1, z2, z3⟩ := blank_of zv
                      by_cases hx : (58 : UInt8) ∈ S.data.toList
                      · have HV := Lib.hid (HP.out.trans (vr_colon hx))
                        rw [decide_eq_true hx] at CI
                        clear hx
                        go_wp2_with fail
                        refine (CI.out _).mono ?_
                        rintro e w4 ⟨rfl, rfl⟩
                        go_wp2_with fail
                        refine bodyPost_ret (v := .tuple #[.agg #[.string ⟨#[]⟩, .string ⟨#[]⟩, .string ⟨#[]⟩], .int .i64 30]) (by simp [results, Tryz.results91, go_sem, hg0, c0, c1, c2, f0, f1, f2]) rfl (PPost.mk_none HV.out ?_)
                        exact ((((HB.out.setCell (by simp) _).setCell (by simp) _).setCell (Nat.le_refl _) _).setCell (Nat.le_refl _) _).setCell (Nat.le_refl _) _
                      · have HV : Hid (parse s0.data.toList = some ⟨(E : ByteArray).data.toList, (S.extract 0 k).data.toList, (S.extract (k + 1) S.size).data.toList⟩) := by
                          show _ = _
                          rw [HP.out, vr_dash hx HB0.out HJ.out, if_neg (by rw [← LV.out, ← LR.out]; exact fun h => h.elim z3 y3), LV.out, LR.out]
                          try rfl
                        rw [decide_eq_false hx] at CI
                        clear hx
                        go_wp2_with fail
                        refine (CI.out _).mono ?_
                        rintro e w4 ⟨rfl, rfl⟩
                        go_wp2_with fail
                        refine bodyPost_ret (v := .tuple #[.agg #[.string E, .string (S.extract 0 k), .string (S.extract (k + 1) S.size)], .int .i64 0]) (by simp [results, Tryz.results91, go_sem, hg0, c0, c1, c2, f0, f1, f2]) rfl (PPost.mk_some HV.out ?_)
                        exact ((((HB.out.setCell (by simp) _).setCell (by simp) _).setCell (Nat.le_refl _) _).setCell (Nat.le_refl _) _).setCell (Nat.le_refl _) _
                · obtain ⟨t1, t2⟩ := u8_miss (n := 45) rfl hc
                  have HN : Hid (∀ j : Nat, (k : Int) - 1 < (j : Int) → j < S.data.toList.length → S.data.toList[j]? ≠ some (45 : UInt8)) := by
                    intro j h1 h2
                    by_cases hj : j = k
                    · subst hj
                      rw [HB0.out]
                      exact fun h => hc (Option.some.inj h)
                    · exact hd.out j (by omega) h2
                  clear hc hd
                  go_wp2_with fail
                  go_round
                  case rel => exact ⟨(k : Int) - 1, rfl, by omega, by omega, HN.out⟩
                  case measure => (simp [intOf]) <;> omega
        · obtain ⟨t1, t2⟩ := u8_miss (n := 58) rfl hc
          have HN : Hid (∀ j, j < k + 1 → s0.data.toList[j]? ≠ some (58 : UInt8)) := by
            intro j h1
            by_cases hj : j = k
            · subst hj
              rw [HB0.out]
              exact fun h => hc (Option.some.inj h)
            · exact hn.out j (by omega)
          clear hc hn
          go_wp2_with fail
          go_round
          case rel => exact ⟨k + 1, rfl, by omega, by go_num, HN.out⟩
          case measure => (simp [intOf]) <;> omega
      · have HP : Hid (parse s0.data.toList = vr (⟨#[]⟩ : ByteArray).data.toList s0.data.toList) := parse_none_at HG.out (fun j hj => hn.out j (by rw [size_len] at hj; omega))
        have zq := Lib.hid h1s
        clear hn HG
        have c10 : w1.cell? ⟨w0.heap.size + 1, 0, none⟩ = some (.string ⟨#[]⟩) := K1.out.cell 0
        have c11 : w1.cell? ⟨w0.heap.size + 1, 1, none⟩ = some (.string ⟨#[]⟩) := K1.out.cell 1
        have c12 : w1.cell? ⟨w0.heap.size + 1, 2, none⟩ = some (.string ⟨#[]⟩) := K1.out.cell 2
        have hg1 := K1.out.lt
        have f10 := K1.out.free 0
        have f11 := K1.out.free 1
        have f12 := K1.out.free 2
        go_wp2_with fail
        clear hg1 f10 f11 f12 c10 c11 c12
        have K0_ : Hid (Blk (w1.setCell ⟨w0.heap.size + 1, 1, none⟩ (.string s0)) w0.heap.size 143 #[Value.string ⟨#[]⟩, .string ⟨#[]⟩, .string ⟨#[]⟩]) := (K0.out.far (by simp) _)
        have K1_ : Hid (Blk (w1.setCell ⟨w0.heap.size + 1, 1, none⟩ (.string s0)) (w0.heap.size + 1) 143 #[Value.string ⟨#[]⟩, .string s0, .string ⟨#[]⟩]) := (K1.out.set_ 1 _)
        have HB_ : Hid (Below w0.heap.size w0 (w1.setCell ⟨w0.heap.size + 1, 1, none⟩ (.string s0))) := (HB.out.setCell (by simp) _)
        clear K0 K1 HB
        have K0 := Lib.hid K0_.out
        have K1 := Lib.hid K1_.out
        have HB := Lib.hid HB_.out
        clear K0_ K1_ HB_
        generalize (w1.setCell ⟨w0.heap.size + 1, 1, none⟩ (.string s0)) = w2 at *
        go_loop [8] (fun i => ∃ n : Int, i = .int .i64 n ∧ -1 ≤ n ∧ n < (s0.size : Int) ∧ Hid (∀ j : Nat, n < (j : Int) → j < s0.data.toList.length → s0.data.toList[j]? ≠ some (45 : UInt8))) (fun i => (intOf i + 1).toNat)
        case atStart => exact ⟨_, rfl, by have := zq.out; omega, by have := zq.out; omega, show ∀ j : Nat, _ from fun j h1 h2 => by have := zq.out; rw [size_len] at h2; omega⟩
        case round =>
          obtain ⟨n, rfl, n0, n1, hd⟩ := hrel
          clear zq
          by_cases hz : n < 0
          · obtain rfl : n = -1 := by omega
            have HD := Lib.hid (no_at (fun j hj => hd.out j (by omega) hj))
            clear hd hz n0 n1
            have ze : ¬ s0.size = 0 := by omega
            obtain ⟨z1, z2, z3⟩ := blank_of ze
            have c10 : w2.cell? ⟨w0.heap.size + 1, 0, none⟩ = some (.string ⟨#[]⟩) := K1.out.cell 0
            have c11 : w2.cell? ⟨w0.heap.size + 1, 1, none⟩ = some (.string s0) := K1.out.cell 1
            have c12 : w2.cell? ⟨w0.heap.size + 1, 2, none⟩ = some (.string ⟨#[]⟩) := K1.out.cell 2
            have hg1 := K1.out.lt
            have f10 := K1.out.free 0
            have f11 := K1.out.free 1
            have f12 := K1.out.free 2
            have CI := Lib.hid (fun w => refIn_any 58 s0 (by unfold maxLen; omega) w)
            change Hid (∀ w, Calls Tryz.prog 137 #[.int .u8 58, .string s0] w fun e w' => e = .returned (.bool (decide ((58 : UInt8) ∈ s0.data.toList))) ∧ w = w') at CI
            by_cases hx : (58 : UInt8) ∈ s0.data.toList
            · have HV := Lib.hid (HP.out.trans (vr_colon hx))
              rw [decide_eq_true hx] at CI
              clear hx
              go_wp2_with fail
              refine (CI.out _).mono ?_
              rintro e w4 ⟨rfl, rfl⟩
              have hg0 := K0.out.lt
              have c0 : w2.cell? ⟨w0.heap.size, 0, none⟩ = some (.string ⟨#[]⟩) := K0.out.cell 0
              have c1 : w2.cell? ⟨w0.heap.size, 1, none⟩ = some (.string ⟨#[]⟩) := K0.out.cell 1
              have c2 : w2.cell? ⟨w0.heap.size, 2, none⟩ = some (.string ⟨#[]⟩) := K0.out.cell 2
              have f0 := K0.out.free 0
              have f1 := K0.out.free 1
              have f2 := K0.out.free 2
              go_wp2_with fail
              refine bodyPost_ret (v := .tuple #[.agg #[.string ⟨#[]⟩, .string ⟨#[]⟩, .string ⟨#[]⟩], .int .i64 30]) (by simp [results, Tryz.results91, go_sem, hg0, c0, c1, c2, f0, f1, f2]) rfl (PPost.mk_none HV.out ?_)
              exact ((HB.out.setCell (Nat.le_refl _) _).setCell (Nat.le_refl _) _).setCell (Nat.le_refl _) _
            · have HV := Lib.hid (HP.out.trans ((vr_plain hx HD.out).trans (if_neg z3)))
              rw [decide_eq_false hx] at CI
              clear hx
              go_wp2_with fail
              refine (CI.out _).mono ?_
              rintro e w4 ⟨rfl, rfl⟩
              have hg0 := K0.out.lt
              have c0 : w2.cell? ⟨w0.heap.size, 0, none⟩ = some (.string ⟨#[]⟩) := K0.out.cell 0
              have c1 : w2.cell? ⟨w0.heap.size, 1, none⟩ = some (.string ⟨#[]⟩) := K0.out.cell 1
              have c2 : w2.cell? ⟨w0.heap.size, 2, none⟩ = some (.string ⟨#[]⟩) := K0.out.cell 2
              have f0 := K0.out.free 0
              have f1 := K0.out.free 1
              have f2 := K0.out.free 2
              go_wp2_with fail
              refine bodyPost_ret (v := .tuple #[.agg #[.string ⟨#[]⟩, .string s0, .string ⟨#[]⟩], .int .i64 0]) (by simp [results, Tryz.results91, go_sem, hg0, c0, c1, c2, f0, f1, f2]) rfl (PPost.mk_some HV.out ?_)
              exact ((HB.out.setCell (Nat.le_refl _) _).setCell (Nat.le_refl _) _).setCell (Nat.le_refl _) _
          · obtain ⟨k, rfl⟩ := Int.eq_ofNat_of_zero_le (a := n) (by omega)
            have hlt : k < s0.size := by omega
            have HB0 := Lib.hid (byte_at hlt)
            have x1 : (0 : Int) ≤ (k : Int) := by omega
            have x2 : (k : Int) + 1 ≤ (s0.size : Int) := by omega
            have x3 : (k : Int) ≤ (s0.size : Int) := by omega
            have x4 : (s0.size : Int) ≤ 60 := by omega
            by_cases hc : s0[k] = 45
            · obtain ⟨t1, t2⟩ := u8_hit (n := 45) rfl hc
              rw [hc] at HB0
              have HJ : Hid (∀ j, k < j → j < s0.data.toList.length → s0.data.toList[j]? ≠ some (45 : UInt8)) := fun j h1 h2 => hd.out j (by omega) h2
              have LV : Hid ((s0.extract 0 k).data.toList = s0.data.toList.take k) := bl_upto _ _
              have LR : Hid ((s0.extract (k + 1) s0.size).data.toList = s0.data.toList.drop (k + 1)) := bl_from _ _
              clear hc hd hz n0 n1
              by_cases zr : (s0.extract (k + 1) s0.size).size = 0
              · have HV := Lib.hid (HP.out.trans (vr_empty HB0.out HJ.out (.inr (by rw [← LR.out]; exact list_nil zr))))
                have z1 : (s0.extract (k + 1) s0.size).toList.isEmpty = true := by rw [ByteArray.toList_eq, list_nil zr]; rfl
                have z2 : (s0.extract (k + 1) s0.size).toList = [] := by rw [ByteArray.toList_eq, list_nil zr]
                clear HP LV LR HJ
                have c10 : w2.cell? ⟨w0.heap.size + 1, 0, none⟩ = some (.string ⟨#[]⟩) := K1.out.cell 0
                have c11 : w2.cell? ⟨w0.heap.size + 1, 1, none⟩ = some (.string s0) := K1.out.cell 1
                have c12 : w2.cell? ⟨w0.heap.size + 1, 2, none⟩ = some (.string ⟨#[]⟩) := K1.out.cell 2
                have hg1 := K1.out.lt
                have f10 := K1.out.free 0
                have f11 := K1.out.free 1
                have f12 := K1.out.free 2
                have hg0 := K0.out.lt
                have c0 : w2.cell? ⟨w0.heap.size, 0, none⟩ = some (.string ⟨#[]⟩) := K0.out.cell 0
                have c1 : w2.cell? ⟨w0.heap.size, 1, none⟩ = some (.string ⟨#[]⟩) := K0.out.cell 1
                have c2 : w2.cell? ⟨w0.heap.size, 2, none⟩ = some (.string ⟨#[]⟩) := K0.out.cell 2
                have f0 := K0.out.free 0
                have f1 := K0.out.free 1
                have f2 := K0.out.free 2
                go_wp2_with fail
                refine bodyPost_ret (v := .tuple #[.agg #[.string ⟨#[]⟩, .string ⟨#[]⟩, .string ⟨#[]⟩], .int .i64 30]) (by simp [results, Tryz.results91, go_sem, hg0, c0, c1, c2, f0, f1, f2]) rfl (PPost.mk_none HV.out ?_)
                exact ((((HB.out.setCell (by simp) _).setCell (by simp) _).setCell (Nat.le_refl _) _).setCell (Nat.le_refl _) _).setCell (Nat.le_refl _) _
              · obtain ⟨y1, y2, y3⟩ := blank_of zr
                have CI := Lib.hid (fun w => refIn_any 58 s0 (by unfold maxLen; omega) w)
                change Hid (∀ w, Calls Tryz.prog 137 #[.int .u8 58, .string s0] w fun e w' => e = .returned (.bool (decide ((58 : UInt8) ∈ s0.data.toList))) ∧ w = w') at CI
                have c10 : w2.cell? ⟨w0.heap.size + 1, 0, none⟩ = some (.string ⟨#[]⟩) := K1.out.cell 0
                have c11 : w2.cell? ⟨w0.heap.size + 1, 1, none⟩ = some (.string s0) := K1.out.cell 1
                have c12 : w2.cell? ⟨w0.heap.size + 1, 2, none⟩ = some (.string ⟨#[]⟩) := K1.out.cell 2
                have hg1 := K1.out.lt
                have f10 := K1.out.free 0
                have f11 := K1.out.free 1
                have f12 := K1.out.free 2
                have hg0 := K0.out.lt
                have c0 : w2.cell? ⟨w0.heap.size, 0, none⟩ = some (.string ⟨#[]⟩) := K0.out.cell 0
                have c1 : w2.cell? ⟨w0.heap.size, 1, none⟩ = some (.string ⟨#[]⟩) := K0.out.cell 1
                have c2 : w2.cell? ⟨w0.heap.size, 2, none⟩ = some (.string ⟨#[]⟩) := K0.out.cell 2
                have f0 := K0.out.free 0
                have f1 := K0.out.free 1
                have f2 := K0.out.free 2
                by_cases zv : (s0.extract 0 k).size = 0
                · have HV := Lib.hid (HP.out.trans (vr_empty HB0.out HJ.out (.inl (by rw [← LV.out]; exact list_nil zv))))
                  have z1 : (s0.extract 0 k).toList.isEmpty = true := by rw [ByteArray.toList_eq, list_nil zv]; rfl
                  have z2 : (s0.extract 0 k).toList = [] := by rw [ByteArray.toList_eq, list_nil zv]
                  clear HP LV LR HJ CI
                  go_wp2_with fail
                  refine bodyPost_ret (v := .tuple #[.agg #[.string ⟨#[]⟩, .string ⟨#[]⟩, .string ⟨#[]⟩], .int .i64 30]) (by simp [results, Tryz.results91, go_sem, hg0, c0, c1, c2, f0, f1, f2]) rfl (PPost.mk_none HV.out ?_)
                  exact ((((HB.out.setCell (by simp) _).setCell (by simp) _).setCell (Nat.le_refl _) _).setCell (Nat.le_refl _) _).setCell (Nat.le_refl _) _
                · obtain ⟨z1, z2, z3⟩ := blank_of zv
                  by_cases hx : (58 : UInt8) ∈ s0.data.toList
                  · have HV := Lib.hid (HP.out.trans (vr_colon hx))
                    rw [decide_eq_true hx] at CI
                    clear hx
                    go_wp2_with fail
                    refine (CI.out _).mono ?_
                    rintro e w4 ⟨rfl, rfl⟩
                    go_wp2_with fail
                    refine bodyPost_ret (v := .tuple #[.agg #[.string ⟨#[]⟩, .string ⟨#[]⟩, .string ⟨#[]⟩], .int .i64 30]) (by simp [results, Tryz.results91, go_sem, hg0, c0, c1, c2, f0, f1, f2]) rfl (PPost.mk_none HV.out ?_)
                    exact ((((HB.out.setCell (by simp) _).setCell (by simp) _).setCell (Nat.le_refl _) _).setCell (Nat.le_refl _) _).setCell (Nat.le_refl _) _
                  · have HV : Hid (parse s0.data.toList = some ⟨(⟨#[]⟩ : ByteArray).data.toList, (s0.extract 0 k).data.toList, (s0.extract (k + 1) s0.size).data.toList⟩) := by
                      show _ = _
                      rw [HP.out, vr_dash hx HB0.out HJ.out, if_neg (by rw [← LV.out, ← LR.out]; exact fun h => h.elim z3 y3), LV.out, LR.out]
                      try rfl
                    rw [decide_eq_false hx] at CI
                    clear hx
                    go_wp2_with fail
                    refine (CI.out _).mono ?_
                    rintro e w4 ⟨rfl, rfl⟩
                    go_wp2_with fail
                    refine bodyPost_ret (v := .tuple #[.agg #[.string ⟨#[]⟩, .string (s0.extract 0 k), .string (s0.extract (k + 1) s0.size)], .int .i64 0]) (by simp [results, Tryz.results91, go_sem, hg0, c0, c1, c2, f0, f1, f2]) rfl (PPost.mk_some HV.out ?_)
                    exact ((((HB.out.setCell (by simp) _).setCell (by simp) _).setCell (Nat.le_refl _) _).setCell (Nat.le_refl _) _).setCell (Nat.le_refl _) _
            · obtain ⟨t1, t2⟩ := u8_miss (n := 45) rfl hc
              have HN : Hid (∀ j : Nat, (k : Int) - 1 < (j : Int) → j < s0.data.toList.length → s0.data.toList[j]? ≠ some (45 : UInt8)) := by
                intro j h1 h2
                by_cases hj : j = k
                · subst hj
                  rw [HB0.out]
                  exact fun h => hc (Option.some.inj h)
                · exact hd.out j (by omega) h2
              clear hc hd
              go_wp2_with fail
              go_round
              case rel => exact ⟨(k : Int) - 1, rfl, by omega, by omega, HN.out⟩
              case measure => (simp [intOf]) <;> omega
end Go.Proofs.YtpmfmkpfjomgnaaGreatDoor

/- Words in a table: (table).number; between; must. Whether a text may be a name. -/
namespace Go.Proofs.YtpmfmkpfjomgnaaGreatDoor
set_option linter.unusedSimpArgs false
set_option linter.unusedVariables false
open Go.RowKit

def firstS : List ByteArray → ByteArray → Nat → Int
  | [], _, _ => 0
  | a :: r, s, i => if a = s then (i : Int) else firstS r s (i + 1)
theorem str_yes {a b : ByteArray} (h : a = b) : (a.toList == b.toList) = true := by subst h; simp

set_option maxHeartbeats 2000000 in
set_option maxRecDepth 100000 in
theorem number_any (a0 a1 a2 a3 a4 a5 a6 a7 s : ByteArray) (w : World) : Calls Tryz.prog 127 #[.agg #[.string a0, .string a1, .string a2, .string a3, .string a4, .string a5, .string a6, .string a7], .string s] w fun e w' =>
    e = .returned (.int .i64 (firstS [a0, a1, a2, a3, a4, a5, a6, a7] s 0)) ∧ Below w.heap.size w w' := by
  obtain ⟨x, hx⟩ : ∃ x, x = firstS [a0, a1, a2, a3, a4, a5, a6, a7] s 0 := ⟨_, rfl⟩
  rw [← hx]
  have HB : Hid (Below w.heap.size w (w.alloc (.cells #[.string a0, .string a1, .string a2, .string a3, .string a4, .string a5, .string a6, .string a7] 172))) := (Below.refl _ _).alloc (Nat.le_refl _) _
  have HX := Lib.hid hx
  have ix0 : ∀ w, (Instr.index 172 (.agg #[.string a0, .string a1, .string a2, .string a3, .string a4, .string a5, .string a6, .string a7]) (.int .i64 0)).run Tryz.prog w = .ok (.string a0) w := fun _ => by kernel_rfl
  have ix1 : ∀ w, (Instr.index 172 (.agg #[.string a0, .string a1, .string a2, .string a3, .string a4, .string a5, .string a6, .string a7]) (.int .i64 1)).run Tryz.prog w = .ok (.string a1) w := fun _ => by kernel_rfl
  have ix2 : ∀ w, (Instr.index 172 (.agg #[.string a0, .string a1, .string a2, .string a3, .string a4, .string a5, .string a6, .string a7]) (.int .i64 2)).run Tryz.prog w = .ok (.string a2) w := fun _ => by kernel_rfl
  have ix3 : ∀ w, (Instr.index 172 (.agg #[.string a0, .string a1, .string a2, .string a3, .string a4, .string a5, .string a6, .string a7]) (.int .i64 3)).run Tryz.prog w = .ok (.string a3) w := fun _ => by kernel_rfl
  have ix4 : ∀ w, (Instr.index 172 (.agg #[.string a0, .string a1, .string a2, .string a3, .string a4, .string a5, .string a6, .string a7]) (.int .i64 4)).run Tryz.prog w = .ok (.string a4) w := fun _ => by kernel_rfl
  have ix5 : ∀ w, (Instr.index 172 (.agg #[.string a0, .string a1, .string a2, .string a3, .string a4, .string a5, .string a6, .string a7]) (.int .i64 5)).run Tryz.prog w = .ok (.string a5) w := fun _ => by kernel_rfl
  have ix6 : ∀ w, (Instr.index 172 (.agg #[.string a0, .string a1, .string a2, .string a3, .string a4, .string a5, .string a6, .string a7]) (.int .i64 6)).run Tryz.prog w = .ok (.string a6) w := fun _ => by kernel_rfl
  have ix7 : ∀ w, (Instr.index 172 (.agg #[.string a0, .string a1, .string a2, .string a3, .string a4, .string a5, .string a6, .string a7]) (.int .i64 7)).run Tryz.prog w = .ok (.string a7) w := fun _ => by kernel_rfl
  clear hx
  go_enter Tryz.func127, Tryz.ntmps127
  go_wp2_with fail
  generalize w.alloc (.cells #[.string a0, .string a1, .string a2, .string a3, .string a4, .string a5, .string a6, .string a7] 172) = w1 at *
  go_loop [8] (fun i => ∃ k : Nat, k ≤ 8 ∧ i = .int .i64 (k : Int) ∧ Hid (x = firstS ([a0, a1, a2, a3, a4, a5, a6, a7].drop k) s k)) (fun i => 8 - (intOf i).toNat)
  case atStart => exact ⟨0, Nat.zero_le _, rfl, HX⟩
  case round =>
    obtain ⟨k, hk, rfl, hn⟩ := hrel
    have hk' : k = 0 ∨ k = 1 ∨ k = 2 ∨ k = 3 ∨ k = 4 ∨ k = 5 ∨ k = 6 ∨ k = 7 ∨ k = 8 := by omega
    rcases hk' with rfl | rfl | rfl | rfl | rfl | rfl | rfl | rfl | rfl
    case inr.inr.inr.inr.inr.inr.inr.inr =>
      go_wp2_with fail
      go_ret
      exact ⟨by rw [hn.out]; rfl, HB.out⟩
    all_goals clear HX
    · clear ix1 ix2 ix3 ix4 ix5 ix6 ix7
      by_cases h : a0 = s
      · have t1 := str_yes h
        have HV : Hid (x = 0) := hn.out.trans (if_pos h)
        clear h hn
        go_wp2_with fail
        go_ret
        exact ⟨by rw [HV.out]; rfl, HB.out⟩
      · have t1 := str_ne h
        have HV : Hid (x = firstS [a1, a2, a3, a4, a5, a6, a7] s 1) := hn.out.trans (if_neg h)
        clear h hn
        go_wp2_with fail
        go_round
        case rel => exact ⟨1, by omega, rfl, HV⟩
        case measure => simp [intOf]
    · clear ix0 ix2 ix3 ix4 ix5 ix6 ix7
      by_cases h : a1 = s
      · have t1 := str_yes h
        have HV : Hid (x = 1) := hn.out.trans (if_pos h)
        clear h hn
        go_wp2_with fail
        go_ret
        exact ⟨by rw [HV.out]; rfl, HB.out⟩
      · have t1 := str_ne h
        have HV : Hid (x = firstS [a2, a3, a4, a5, a6, a7] s 2) := hn.out.trans (if_neg h)
        clear h hn
        go_wp2_with fail
        go_round
        case rel => exact ⟨2, by omega, rfl, HV⟩
        case measure => simp [intOf]
    · clear ix0 ix1 ix3 ix4 ix5 ix6 ix7
      by_cases h : a2 = s
      · have t1 := str_yes h
        have HV : Hid (x = 2) := hn.out.trans (if_pos h)
        clear h hn
        go_wp2_with fail
        go_ret
        exact ⟨by rw [HV.out]; rfl, HB.out⟩
      · have t1 := str_ne h
        have HV : Hid (x = firstS [a3, a4, a5, a6, a7] s 3) := hn.out.trans (if_neg h)
        clear h hn
        go_wp2_with fail
        go_round
        case rel => exact ⟨3, by omega, rfl, HV⟩
        case measure => simp [intOf]
    · clear ix0 ix1 ix2 ix4 ix5 ix6 ix7
      by_cases h : a3 = s
      · have t1 := str_yes h
        have HV : Hid (x = 3) := hn.out.trans (if_pos h)
        clear h hn
        go_wp2_with fail
        go_ret
        exact ⟨by rw [HV.out]; rfl, HB.out⟩
      · have t1 := str_ne h
        have HV : Hid (x = firstS [a4, a5, a6, a7] s 4) := hn.out.trans (if_neg h)
        clear h hn
        go_wp2_with fail
        go_round
        case rel => exact ⟨4, by omega, rfl, HV⟩
        case measure => simp [intOf]
    · clear ix0 ix1 ix2 ix3 ix5 ix6 ix7
      by_cases h : a4 = s
      · have t1 := str_yes h
        have HV : Hid (x = 4) := hn.out.trans (if_pos h)
        clear h hn
        go_wp2_with fail
        go_ret
        exact ⟨by rw [HV.out]; rfl, HB.out⟩
      · have t1 := str_ne h
        have HV : Hid (x = firstS [a5, a6, a7] s 5) := hn.out.trans (if_neg h)
        clear h hn
        go_wp2_with fail
        go_round
        case rel => exact ⟨5, by omega, rfl, HV⟩
        case measure => simp [intOf]
    · clear ix0 ix1 ix2 ix3 ix4 ix6 ix7
      by_cases h : a5 = s
      · have t1 := str_yes h
        have HV : Hid (x = 5) := hn.out.trans (if_pos h)
        clear h hn
        go_wp2_with fail
        go_ret
        exact ⟨by rw [HV.out]; rfl, HB.out⟩
      · have t1 := str_ne h
        have HV : Hid (x = firstS [a6, a7] s 6) := hn.out.trans (if_neg h)
        clear h hn
        go_wp2_with fail
        go_round
        case rel => exact ⟨6, by omega, rfl, HV⟩
        case measure => simp [intOf]
    · clear ix0 ix1 ix2 ix3 ix4 ix5 ix7
      by_cases h : a6 = s
      · have t1 := str_yes h
        have HV : Hid (x = 6) := hn.out.trans (if_pos h)
        clear h hn
        go_wp2_with fail
        go_ret
        exact ⟨by rw [HV.out]; rfl, HB.out⟩
      · have t1 := str_ne h
        have HV : Hid (x = firstS [a7] s 7) := hn.out.trans (if_neg h)
        clear h hn
        go_wp2_with fail
        go_round
        case rel => exact ⟨7, by omega, rfl, HV⟩
        case measure => simp [intOf]
    · clear ix0 ix1 ix2 ix3 ix4 ix5 ix6
      by_cases h : a7 = s
      · have t1 := str_yes h
        have HV : Hid (x = 7) := hn.out.trans (if_pos h)
        clear h hn
        go_wp2_with fail
        go_ret
        exact ⟨by rw [HV.out]; rfl, HB.out⟩
      · have t1 := str_ne h
        have HV : Hid (x = firstS [] s 8) := hn.out.trans (if_neg h)
        clear h hn
        go_wp2_with fail
        go_round
        case rel => exact ⟨8, by omega, rfl, HV⟩
        case measure => simp [intOf]

/-- The two tables lie where the program keeps them. -/
def wordsRow : Array Value := #[.string ⟨#[]⟩, .string ⟨#[]⟩, .string (mkS wAnd), .string (mkS wOr), .string (mkS wIf), .string (mkS wWith), .string (mkS wWithout), .string ⟨#[]⟩]
def signsRow : Array Value := #[.string ⟨#[]⟩, .string (mkS [60]), .string (mkS [61]), .string (mkS [60, 61]), .string (mkS [62]), .string (mkS [60, 62]), .string (mkS [62, 61]), .string (mkS [60, 61, 62])]
def WordsAt (w : World) : Prop := ∃ t, Blk w 0 t wordsRow
def SignsAt (w : World) : Prop := ∃ t, Blk w 1 t signsRow
theorem WordsAt.cell {w : World} (h : WordsAt w) (i : Nat) : w.cell? ⟨0, i, none⟩ = (#[.string ⟨#[]⟩, .string ⟨#[]⟩, .string (mkS wAnd), .string (mkS wOr), .string (mkS wIf), .string (mkS wWith), .string (mkS wWithout), .string ⟨#[]⟩] : Array Value)[i]? := by
  obtain ⟨t, h⟩ := h
  exact Blk.cell h i
theorem SignsAt.cell {w : World} (h : SignsAt w) (i : Nat) : w.cell? ⟨1, i, none⟩ = (#[.string ⟨#[]⟩, .string (mkS [60]), .string (mkS [61]), .string (mkS [60, 61]), .string (mkS [62]), .string (mkS [60, 62]), .string (mkS [62, 61]), .string (mkS [60, 61, 62])] : Array Value)[i]? := by
  obtain ⟨t, h⟩ := h
  exact Blk.cell h i
theorem SignsAt.below {B : Nat} {w w' : World} (h : SignsAt w) (hb : Below B w w') (hB : 1 < B) : SignsAt w' := by
  obtain ⟨t, h⟩ := h
  exact ⟨t, Blk.below h hb hB⟩
theorem WordsAt.below {B : Nat} {w w' : World} (h : WordsAt w) (hb : Below B w w') (hB : 0 < B) : WordsAt w' := by
  obtain ⟨t, h⟩ := h
  exact ⟨t, Blk.below h hb hB⟩
theorem SignsAt.lt {w : World} (h : SignsAt w) : 1 < w.heap.size := by
  obtain ⟨t, h⟩ := h
  exact Blk.lt h
theorem WordsAt.lt {w : World} (h : WordsAt w) : 0 < w.heap.size := by
  obtain ⟨t, h⟩ := h
  exact Blk.lt h
structure Tabs (w : World) : Prop where
  words : WordsAt w
  signs : SignsAt w
theorem Tabs.two {w : World} (h : Tabs w) : 2 ≤ w.heap.size := by
  obtain ⟨_, h1⟩ := h.signs
  obtain ⟨_, h2⟩ := h.words
  have := Blk.lt h1
  have := Blk.lt h2
  omega
theorem Tabs.turned {F : List Nat} {w w' : World} (h : Tabs w) (ht : Turned F w w') (hF : ∀ k ∈ F, 2 ≤ k) : Tabs w' := by
  obtain ⟨⟨t1, h1⟩, t2, h2⟩ := h
  exact ⟨⟨t1, h1.turned ht (fun hm => by have := hF _ hm; omega)⟩, t2, h2.turned ht (fun hm => by have := hF _ hm; omega)⟩
theorem Tabs.below {B : Nat} {w w' : World} (h : Tabs w) (hb : Below B w w') (hB : 2 ≤ B) : Tabs w' := by
  obtain ⟨⟨t1, h1⟩, t2, h2⟩ := h
  exact ⟨⟨t1, Blk.below h1 hb (by omega)⟩, t2, Blk.below h2 hb (by omega)⟩

theorem mkS_eq {l : List UInt8} {s : ByteArray} : (mkS l = s) ↔ s.data.toList = l := by
  constructor
  · rintro rfl; rfl
  · intro h; rw [← h]; rfl
theorem nil_eq {s : ByteArray} : ((⟨#[]⟩ : ByteArray) = s) ↔ s.data.toList = [] := by
  constructor
  · rintro rfl; rfl
  · intro h; exact (empty_back h).symm
theorem firstW (s : ByteArray) : firstS [⟨#[]⟩, ⟨#[]⟩, mkS wAnd, mkS wOr, mkS wIf, mkS wWith, mkS wWithout, ⟨#[]⟩] s 0 = numW s.data.toList := by
  simp only [firstS, mkS_eq, nil_eq]
  unfold numW
  by_cases h0 : s.data.toList = []
  · rw [h0]; decide
  · simp only [h0, if_false]
    repeat' split
    all_goals rfl
theorem firstG (s : ByteArray) : firstS [⟨#[]⟩, mkS [60], mkS [61], mkS [60, 61], mkS [62], mkS [60, 62], mkS [62, 61], mkS [60, 61, 62]] s 0 = numS s.data.toList := by
  simp only [firstS, mkS_eq, nil_eq]
  unfold numS
  by_cases h0 : s.data.toList = []
  · rw [h0]; decide
  · simp only [h0, if_false]
    repeat' split
    all_goals rfl
theorem numW_any (s : ByteArray) (w : World) : Calls Tryz.prog 127 #[.agg #[.string ⟨#[]⟩, .string ⟨#[]⟩, .string (mkS wAnd), .string (mkS wOr), .string (mkS wIf), .string (mkS wWith), .string (mkS wWithout), .string ⟨#[]⟩], .string s] w fun e w' =>
    e = .returned (.int .i64 (numW s.data.toList)) ∧ Below w.heap.size w w' := by rw [← firstW]; exact number_any _ _ _ _ _ _ _ _ s w
theorem numS_any (s : ByteArray) (w : World) : Calls Tryz.prog 127 #[.agg #[.string ⟨#[]⟩, .string (mkS [60]), .string (mkS [61]), .string (mkS [60, 61]), .string (mkS [62]), .string (mkS [60, 62]), .string (mkS [62, 61]), .string (mkS [60, 61, 62])], .string s] w fun e w' =>
    e = .returned (.int .i64 (numS s.data.toList)) ∧ Below w.heap.size w w' := by rw [← firstG]; exact number_any _ _ _ _ _ _ _ _ s w

/-- The error that is given up with. -/
def gaveUp (n : Int) : Ending := .panicked [{ v := .iface 25 (.int .i64 n), recovered := false }]
set_option maxRecDepth 100000 in
theorem must_yes (w : World) : Calls Tryz.prog 143 #[.bool true] w fun e w' => e = .returned (.tuple #[]) ∧ w = w' := by
  go_enter Tryz.func143, Tryz.ntmps143
  go_wp2_with fail
  go_end0
  exact ⟨rfl, rfl⟩
set_option maxRecDepth 100000 in
theorem must_no (w : World) : Calls Tryz.prog 143 #[.bool false] w fun e w' => e = gaveUp 50 ∧ w = w' := by
  go_enter Tryz.func143, Tryz.ntmps143
  go_wp2_with fail
  exact ⟨rfl, ⟨rfl, rfl⟩⟩

def kindB (k : Int) : Prop := 0 ≤ k ∧ k ≤ 7
set_option maxHeartbeats 1000000 in
set_option maxRecDepth 100000 in
/-- The word behind so many arguments. -/
theorem between_any (k : Int) (n : Nat) (hk : kindB k) (w : World) (hT : WordsAt w) : Calls Tryz.prog 144 #[.int .i64 k, .int .i64 (n : Int)] w fun e w' => e = .returned (.string (mkS (btw k n))) ∧ w = w' := by
  have c0 := hT.cell 0
  have c1 := hT.cell 1
  have c2 := hT.cell 2
  have c3 := hT.cell 3
  have c4 := hT.cell 4
  have c5 := hT.cell 5
  have c6 := hT.cell 6
  have c7 := hT.cell 7
  have hk' : k = 0 ∨ k = 1 ∨ k = 2 ∨ k = 3 ∨ k = 4 ∨ k = 5 ∨ k = 6 ∨ k = 7 := by have := hk.1; have := hk.2; omega
  clear hT hk
  rcases hk' with rfl | rfl | rfl | rfl | rfl | rfl | rfl | rfl
  case inr.inr.inr.inr.inl =>
    by_cases hn : n = 2
    · subst hn
      go_enter Tryz.func144, Tryz.ntmps144
      go_wp2_with fail
      go_ret
      exact ⟨rfl, rfl⟩
    · have h1 : btw 4 n = wIf := by unfold btw; rw [if_neg (fun e => hn e.2)]; rfl
      have t1 : ((n : Int) == 2) = false := beq_eq_false_iff_ne.2 (by omega)
      rw [h1]
      clear h1 hn
      go_enter Tryz.func144, Tryz.ntmps144
      go_wp2_with fail
      go_ret
      exact ⟨rfl, rfl⟩
  all_goals
    go_enter Tryz.func144, Tryz.ntmps144
    go_wp2_with fail
    go_ret
    exact ⟨rfl, rfl⟩
end Go.Proofs.YtpmfmkpfjomgnaaGreatDoor
namespace Go.Proofs.YtpmfmkpfjomgnaaGreatDoor
set_option linter.unusedSimpArgs false
set_option linter.unusedVariables false
open Go.RowKit

theorem scan_at {s : ByteArray} {k o : Nat} (h : k < s.size) : scan o (s.data.toList.drop k) = if s[k] < 33 ∨ 126 < s[k] then false else if s[k] = 40 then scan (o + 1) (s.data.toList.drop (k + 1)) else if s[k] = 41 then (if o = 0 then false else scan (o - 1) (s.data.toList.drop (k + 1))) else scan o (s.data.toList.drop (k + 1)) := by
  have h1 := byte_at h
  have h2 : s.data.toList.drop k = s[k] :: s.data.toList.drop (k + 1) := by
    rw [List.drop_eq_getElem_cons (by rw [size_len]; exact h)]
    rw [List.getElem?_eq_getElem (by rw [size_len]; exact h)] at h1
    injection h1 with h1
    rw [h1]
  rw [h2]
  simp only [scan]
theorem u8_lt {c : UInt8} {n : Nat} (hn : n < 256) : (decide ((c.toNat : Int) < (n : Int))) = decide (c < UInt8.ofNat n) := by
  rw [Bool.eq_iff_iff]
  simp only [decide_eq_true_eq, UInt8.lt_iff_toNat_lt]
  rw [UInt8.toNat_ofNat_of_lt' hn]
  omega
theorem name_cons {l : Wd} (h1 : 1 ≤ l.length) (h2 : l.length ≤ 60) (h3 : l.head? ≠ some 40) (h4 : l ≠ wElse) (h5 : numW l = 0) (h6 : numS l = 0) : nameB l = scan 0 l := by
  unfold nameB
  simp [h1, h2, h3, h4, h5, h6]
theorem name_no {l : Wd} (h : l.length = 0 ∨ 60 < l.length ∨ l.head? = some 40 ∨ l = wElse ∨ numW l ≠ 0 ∨ numS l ≠ 0) : nameB l = false := by
  cases hn : nameB l with
  | false => rfl
  | true =>
    unfold nameB at hn
    simp only [Bool.and_eq_true, decide_eq_true_eq] at hn
    obtain ⟨⟨⟨⟨⟨⟨a1, a2⟩, a3⟩, a4⟩, a5⟩, a6⟩, a7⟩ := hn
    rcases h with h | h | h | h | h | h
    · omega
    · omega
    · exact absurd h a3
    · exact absurd h a4
    · exact absurd a5 h
    · exact absurd a6 h
theorem head_at {s : ByteArray} (h : 0 < s.size) : s.data.toList.head? = some s[0] := by rw [list_cons h]; rfl
/-- A text held against one that is written out. -/
theorem str_is {s : ByteArray} {l : List UInt8} (h : s.data.toList = l) : s = ⟨l.toArray⟩ := by rw [← h]
theorem str_isnt {s : ByteArray} {l : List UInt8} (h : s.data.toList ≠ l) : (s.toList == (⟨l.toArray⟩ : ByteArray).toList) = false := str_ne fun e => h (by rw [e])

set_option maxHeartbeats 4000000 in
set_option maxRecDepth 100000 in
theorem name_any (s : ByteArray) (w : World) (hT : Tabs w) : Calls Tryz.prog 79 #[.string s] w fun e w' => e = .returned (.bool (nameB s.data.toList)) ∧ Below w.heap.size w w' := by
  obtain ⟨x, hx⟩ : ∃ x, x = nameB s.data.toList := ⟨_, rfl⟩
  rw [← hx]
  have HX := Lib.hid hx
  clear hx
  by_cases h0 : s.size = 0
  · obtain rfl := empty_of h0
    have HV : Hid (x = false) := HX.out.trans (name_no (.inl rfl))
    clear HX h0 hT
    go_enter Tryz.func79, Tryz.ntmps79
    go_wp2_with fail
    go_ret
    exact ⟨by rw [HV.out]; rfl, Below.refl _ _⟩
  have hp : 0 < s.size := by omega
  have e0 : s.toList.isEmpty = false ∧ ¬ s.toList = [] ∧ s.data.toList ≠ [] := blank_of h0
  obtain ⟨b1, b2, b3⟩ := e0
  by_cases h60 : 60 < s.size
  · have HV : Hid (x = false) := HX.out.trans (name_no (.inr (.inl (by rw [size_len]; exact h60))))
    have t60 : (60 : Int) < (s.size : Int) := by omega
    clear HX hT
    go_enter Tryz.func79, Tryz.ntmps79
    go_wp2_with fail
    go_ret
    exact ⟨by rw [HV.out]; rfl, Below.refl _ _⟩
  have t60 : ¬ (60 : Int) < (s.size : Int) := by omega
  by_cases h40 : s[0] = 40
  · obtain ⟨t1, _⟩ := u8_hit (n := 40) rfl h40
    have HV : Hid (x = false) := HX.out.trans (name_no (.inr (.inr (.inl (by rw [head_at hp, h40])))))
    clear HX hT h40
    go_enter Tryz.func79, Tryz.ntmps79
    go_wp2_with fail
    go_ret
    exact ⟨by rw [HV.out]; rfl, Below.refl _ _⟩
  obtain ⟨t1, _⟩ := u8_miss (n := 40) rfl h40
  by_cases he : s.data.toList = wElse
  · have HV : Hid (x = false) := HX.out.trans (name_no (.inr (.inr (.inr (.inl he)))))
    have t2 := str_yes (str_is he)
    obtain rfl := str_is he
    clear HX hT he
    go_enter Tryz.func79, Tryz.ntmps79
    go_wp2_with fail
    go_ret
    exact ⟨by rw [HV.out]; rfl, Below.refl _ _⟩
  have t2 : (s.toList == (⟨#[101, 108, 115, 101]⟩ : ByteArray).toList) = false := str_isnt he
  have t3 : (s.toList == [101, 108, 115, 101]) = false := by rw [ByteArray.toList_eq]; exact beq_eq_false_iff_ne.2 he
  have t4 : ¬ s.toList = [101, 108, 115, 101] := by rw [ByteArray.toList_eq]; exact he
  have CW := Lib.hid (fun w => numW_any s w)
  have CS := Lib.hid (fun w => numS_any s w)
  have w0 := hT.words.cell 0
  have w1 := hT.words.cell 1
  have w2 := hT.words.cell 2
  have w3 := hT.words.cell 3
  have w4 := hT.words.cell 4
  have w5 := hT.words.cell 5
  have w6 := hT.words.cell 6
  have w7 := hT.words.cell 7
  have HN := Lib.hid (fun (h5 : numW s.data.toList = 0) (h6 : numS s.data.toList = 0) => HX.out.trans (name_cons (by rw [size_len]; omega) (by rw [size_len]; omega) (by rw [head_at hp]; intro e; injection e with e; exact h40 e) he h5 h6))
  have HF := Lib.hid (fun (h : numW s.data.toList ≠ 0 ∨ numS s.data.toList ≠ 0) => HX.out.trans (name_no (.inr (.inr (.inr (.inr h))))))
  have HT := Lib.hid hT.signs
  have H2 := Lib.hid hT.two
  clear HX h40 he hT b3
  generalize numW s.data.toList = m at *
  generalize numS s.data.toList = g at *
  by_cases hm : m ≠ 0
  · have HV : Hid (x = false) := HF.out (.inl hm)
    have tm : (m != 0) = true := by simpa using hm
    have tm' : (m == 0) = false := beq_eq_false_iff_ne.2 hm
    clear HF HN hm CS HT
    go_enter Tryz.func79, Tryz.ntmps79
    go_wp2_with fail
    refine (CW.out _).mono ?_
    rintro e w1' ⟨rfl, hb1⟩
    have HB := Lib.hid hb1
    clear hb1
    go_wp2_with fail
    go_ret
    exact ⟨by rw [HV.out]; rfl, HB.out⟩
  obtain rfl : m = 0 := by omega
  clear hm
  go_enter Tryz.func79, Tryz.ntmps79
  go_wp2_with fail
  refine (CW.out _).mono ?_
  rintro e w1' ⟨rfl, hb1⟩
  have HB := Lib.hid hb1
  have hz := hb1.size
  have K := HT.out.below hb1 (by have := H2.out; omega)
  have g0 := K.cell 0
  have g1 := K.cell 1
  have g2 := K.cell 2
  have g3 := K.cell 3
  have g4 := K.cell 4
  have g5 := K.cell 5
  have g6 := K.cell 6
  have g7 := K.cell 7
  clear hb1 K CW HT w0 w1 w2 w3 w4 w5 w6 w7
  by_cases hg : g ≠ 0
  · have HV : Hid (x = false) := HF.out (.inr hg)
    have tm : (g != 0) = true := by simpa using hg
    have tm' : (g == 0) = false := beq_eq_false_iff_ne.2 hg
    clear HF HN hg
    go_wp2_with fail
    refine (CS.out _).mono ?_
    rintro e w2' ⟨rfl, hb2⟩
    have HB2 := Lib.hid (HB.out.trans (hb2.mono hz))
    clear hb2
    go_wp2_with fail
    go_ret
    exact ⟨by rw [HV.out]; rfl, HB2.out⟩
  obtain rfl : g = 0 := by omega
  clear hg
  have HV : Hid (x = scan 0 (s.data.toList.drop 0)) := HN.out (by first | trivial | rfl) (by first | trivial | rfl)
  clear HF HN
  go_wp2_with fail
  refine (CS.out _).mono ?_
  rintro e w2' ⟨rfl, hb2⟩
  have HB2 := Lib.hid (HB.out.trans (hb2.mono hz))
  clear hb2 CS HB g0 g1 g2 g3 g4 g5 g6 g7 hz
  go_wp2_with fail
  go_loop [3, 36] (fun o i => ∃ k n : Nat, k ≤ s.size ∧ n ≤ k ∧ i = .int .i64 (k : Int) ∧ o = .int .i64 (n : Int) ∧ Hid (x = scan n (s.data.toList.drop k))) (fun _ i => s.size - (intOf i).toNat)
  case atStart => exact ⟨0, 0, Nat.zero_le _, Nat.le_refl _, rfl, rfl, HV⟩
  case round =>
    obtain ⟨k, n, hk, hnk, rfl, rfl, hn⟩ := hrel
    clear HV
    by_cases hlt : k < s.size
    · have HS : Hid (x = if s[k] < 33 ∨ 126 < s[k] then false else if s[k] = 40 then scan (n + 1) (s.data.toList.drop (k + 1)) else if s[k] = 41 then (if n = 0 then false else scan (n - 1) (s.data.toList.drop (k + 1))) else scan n (s.data.toList.drop (k + 1))) := hn.out.trans (scan_at hlt)
      have l33 : decide ((s[k].toNat : Int) < 33) = decide (s[k] < 33) := u8_lt (n := 33) (by omega)
      have l126 : decide ((126 : Int) < (s[k].toNat : Int)) = decide (126 < s[k]) := by
        rw [Bool.eq_iff_iff]
        simp only [decide_eq_true_eq, UInt8.lt_iff_toNat_lt]
        show (126 : Int) < _ ↔ 126 < _
        omega
      clear hn
      by_cases hc : s[k] < 33 ∨ 126 < s[k]
      · have HV : Hid (x = false) := HS.out.trans (if_pos hc)
        have tc : (s[k].toNat : Int) < 33 ∨ ¬ (s[k].toNat : Int) < 33 ∧ (126 : Int) < (s[k].toNat : Int) := by
          rcases hc with h | h
          · left; simpa [h] using l33
          · by_cases h' : (s[k].toNat : Int) < 33
            · exact .inl h'
            · right; exact ⟨h', by simpa [h] using l126⟩
        clear HS l33 l126 hc
        rcases tc with t | ⟨t, t'⟩
        all_goals
          go_wp2_with fail
          go_ret
          exact ⟨by rw [HV.out]; rfl, HB2.out⟩
      · have t33 : ¬ (s[k].toNat : Int) < 33 := by
          intro h
          rw [decide_eq_true h] at l33
          exact hc (.inl (of_decide_eq_true l33.symm))
        have t126 : ¬ (126 : Int) < (s[k].toNat : Int) := by
          intro h
          rw [decide_eq_true h] at l126
          exact hc (.inr (of_decide_eq_true l126.symm))
        have HS1 := Lib.hid (HS.out.trans (if_neg hc))
        clear HS l33 l126 hc
        by_cases h4 : s[k] = 40
        · obtain ⟨t4, _⟩ := u8_hit (n := 40) rfl h4
          have HV := Lib.hid (HS1.out.trans (if_pos h4))
          clear HS1 h4
          go_wp2_with fail
          go_round
          case rel => exact ⟨k + 1, n + 1, by omega, by omega, by go_num, by go_num, HV.out⟩
          case measure => simp [intOf]; omega
        · obtain ⟨t4, _⟩ := u8_miss (n := 40) rfl h4
          have HS2 := Lib.hid (HS1.out.trans (if_neg h4))
          clear HS1 h4
          by_cases h5 : s[k] = 41
          · obtain ⟨t5, _⟩ := u8_hit (n := 41) rfl h5
            have HS3 := Lib.hid (HS2.out.trans (if_pos h5))
            clear HS2 h5
            by_cases hn0 : n = 0
            · subst hn0
              have HV : Hid (x = false) := HS3.out.trans (if_pos rfl)
              clear HS3
              go_wp2_with fail
              go_ret
              exact ⟨by rw [HV.out]; rfl, HB2.out⟩
            · have HV := Lib.hid (HS3.out.trans (if_neg hn0))
              have tn : ((n : Int) == 0) = false := beq_eq_false_iff_ne.2 (by omega)
              have hn1 : 1 ≤ n := by omega
              clear HS3 hn0
              go_wp2_with fail
              go_round
              case rel => exact ⟨k + 1, n - 1, by omega, by omega, by go_num, by congr 1; omega, HV.out⟩
              case measure => simp [intOf]; omega
          · obtain ⟨t5, _⟩ := u8_miss (n := 41) rfl h5
            have HV := Lib.hid (HS2.out.trans (if_neg h5))
            clear HS2 h5
            go_wp2_with fail
            go_round
            case rel => exact ⟨k + 1, n, by omega, by omega, by go_num, rfl, HV.out⟩
            case measure => simp [intOf]; omega
    · have HV : Hid (x = (n == 0)) := by
        show x = _
        rw [hn.out, List.drop_eq_nil_of_le (by rw [size_len]; omega)]
        rfl
      clear hn
      go_wp2_with fail
      go_ret
      refine ⟨ret_bool ?_, HB2.out⟩
      rw [HV.out, Bool.eq_iff_iff]
      simp <;> omega
end Go.Proofs.YtpmfmkpfjomgnaaGreatDoor
