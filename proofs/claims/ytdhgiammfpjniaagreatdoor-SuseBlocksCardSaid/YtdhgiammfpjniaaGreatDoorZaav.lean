/- The reference's Same of dependencies, Lists, SameTexts. The package that a stanza tells: pack. -/
import Derived.Test.YtdhgiammfpjniaaGreatDoorZaar
import Derived.StillTailTactics
import Derived.Deep.QuietTactic
import Derived.BigQuiet
import Derived.Test.YtdhgiammfpjniaaGreatDoorZaas
import Derived.Deep.LoopGhost
/- The reference's Same of dependencies, Lists, SameTexts. -/
namespace Go.Proofs.YtdhgiammfpjniaaGreatDoor.Ev
set_option linter.unusedSimpArgs false
set_option linter.unusedVariables false
open Go.RowKit

def SameOk (d : Dep) : Prop := ∀ (s s' : Value) (S S' : Nat → Prop) (w : World), Lay w S d s → Lay w S' d s' → Calls Tryz.prog 118 #[.agg (rowD d s), .agg (rowD d s')] w fun e w' => e = .returned (.bool true) ∧ Below w.heap.size w w'
theorem str_self (a : ByteArray) : (a.toList != a.toList) = false ∧ (a.toList == a.toList) = true := by simp
set_option maxHeartbeats 4000000 in
set_option maxRecDepth 100000 in
theorem refSame_node (d : Dep) (ih : ∀ a ∈ d.args, SameOk a) : SameOk d := by
  intro s s' S S' w hL hL'
  obtain ⟨A, c, rfl, hc1, hc2, hA⟩ := hL.args_
  obtain ⟨A', c', rfl, hc1', hc2', hA'⟩ := hL'.args_
  obtain ⟨w1, hw1⟩ : ∃ w1, w1 = (w.alloc (.cells (rowD d (.slice A d.args.length c)) 39)).alloc (.cells (rowD d (.slice A' d.args.length c')) 39) := ⟨_, rfl⟩
  have hB1 : Below w.heap.size w w1 := by rw [hw1]; exact ((Below.refl _ _).alloc (Nat.le_refl _) _).alloc (by simp) _
  have K : Blk w1 w.heap.size 39 (rowD d (.slice A d.args.length c)) := by rw [hw1]; exact (Blk.new _ _ _).alloc _
  have K' : Blk w1 (w.heap.size + 1) 39 (rowD d (.slice A' d.args.length c')) := by rw [hw1]; exact Blk.new' (by simp)
  have hz1 : w1.heap.size = w.heap.size + 2 := by rw [hw1]; simp
  have hA1 : ArgsAt w1 S d.args A := hA.stay (fun _ h => h) (StayS.below' hB1)
  have hA1' : ArgsAt w1 S' d.args A' := hA'.stay (fun _ h => h) (StayS.below' hB1)
  have HF : Hid (∀ wx, Below w1.heap.size w1 wx → Blk wx w.heap.size 39 (rowD d (.slice A d.args.length c)) ∧ Blk wx (w.heap.size + 1) 39 (rowD d (.slice A' d.args.length c')) ∧ ArgsAt wx S d.args A ∧ ArgsAt wx S' d.args A' ∧ Below w.heap.size w wx) := fun wx hb => ⟨K.below hb (by omega), K'.below hb (by omega), hA1.stay (fun _ h => h) (StayS.below' hb), hA1'.stay (fun _ h => h) (StayS.below' hb), hB1.trans (hb.mono (by omega))⟩
  have HIH := Lib.hid ih
  have hargs : d.args.length ≤ 9223372036854775807 := by unfold maxLen at hc2; omega
  obtain ⟨R, HR⟩ : ∃ R : World → Prop, Hid (∀ wx, R wx ↔ Below w1.heap.size w1 wx) := ⟨fun wx => Below w1.heap.size w1 wx, fun _ => Iff.rfl⟩
  have HR0 : Hid (R w1) := (HR.out _).2 (Below.refl _ _)
  obtain ⟨e1, e2⟩ := str_self d.name
  obtain ⟨e3, e4⟩ := str_self d.evr
  clear hL hL' hA hA' hB1 K K' hA1 hA1' ih hz1 hc2 hc2'
  subst hw1
  unfold rowD at HR HR0 HF ⊢
  go_enter Tryz.func118, Tryz.ntmps118
  go_wp2_with fail
  go_loopw [5] (fun v5 wx => ∃ (k : Nat), k ≤ d.args.length ∧ v5 = .int .i64 (k : Int) ∧ Hid (R wx)) (fun v5 _ => d.args.length - (intOf v5).toNat)
  case atStart => exact ⟨0, Nat.zero_le _, rfl, HR0⟩
  case round =>
    clear HR0
    obtain ⟨k, hkn, rfl, HRr⟩ := hrel
    obtain ⟨Kr, Kr', hAr, hAr', hBr⟩ := HF.out wr ((HR.out _).1 HRr.out)
    have c4 := Kr.cell 4
    have c4' := Kr'.cell 4
    simp at c4 c4'
    by_cases hlt : k < d.args.length
    · obtain ⟨a, ha⟩ : ∃ a, d.args[k]? = some a := ⟨_, List.getElem?_eq_getElem hlt⟩
      obtain ⟨b1, o1, t1, hA1, _, hC1, hLa1⟩ := hAr k a ha
      obtain ⟨b2, o2, t2, hA2, _, hC2, hLa2⟩ := hAr' k a ha
      obtain ⟨At1, ct1, rfl, _, _⟩ := hLa1.form_
      obtain ⟨At2, ct2, rfl, _, _⟩ := hLa2.form_
      subst hA1
      subst hA2
      obtain ⟨g0, g1, g2, g3, g4⟩ := hC1
      obtain ⟨h0, h1, h2, h3, h4⟩ := hC2
      have CI := Lib.hid (HIH.out a (List.mem_of_getElem? ha) _ _ S S' wr.drew (Lay.stay (fun _ h => h) (show StayS S wr wr.drew from fun _ _ _ => rfl) a _ hLa1) (Lay.stay (fun _ h => h) (show StayS S' wr wr.drew from fun _ _ _ => rfl) a _ hLa2))
      have HRr2 : Hid (∀ w', Below wr.drew.heap.size wr.drew w' → R w') := fun w' hb => by
        have hx1 := (HR.out _).1 HRr.out
        exact (HR.out _).2 ((below_drewN' hx1 1).trans (hb.mono hx1.size))
      clear Kr Kr' hAr hAr' hLa1 hLa2 ha HRr
      unfold rowD at CI
      go_wp2_with fail
      go_still_tail 10, (by kernel_rfl)
      go_wp2_with fail
      refine CI.out.mono ?_
      rintro e w3 ⟨rfl, hb3⟩
      have HR3 := Lib.hid (HRr2.out w3 hb3)
      clear hb3 CI HRr2
      go_wp2_with fail
      go_roundw
      case rel => exact ⟨k + 1, by omega, by go_num, HR3⟩
      case measure => simp [intOf]; omega
    · have HB := Lib.hid hBr
      clear Kr Kr' hAr hAr' hBr
      go_wp2_with fail
      go_ret
      exact ⟨rfl, HB.out⟩
theorem refSame_any (d : Dep) : SameOk d := by
  induction d using Dep.ind with
  | h k n o e xs ih => exact refSame_node _ ih
def ListsPost (ss : Nat → Value) (w : World) (e : Ending) (w' : World) : Prop :=
  ∃ b, e = .returned (.slice (some ⟨b, 0, none⟩) 7 7) ∧ Blk w' b 35 #[ss 0, ss 1, ss 2, ss 3, ss 4, ss 5, ss 6] ∧ Below w.heap.size w w'
set_option maxHeartbeats 2000000 in
set_option maxRecDepth 100000 in
theorem refLists_any (p : Pkg) (ss : Nat → Value) (fs : Value) (hss : ∀ i, i < 7 → ∃ B n m, ss i = .slice B n m) (w : World) :
    Calls Tryz.prog 54 #[.agg (rowP p ss fs)] w (ListsPost ss w) := by
  obtain ⟨B0, n0, m0, s0⟩ := hss 0 (by omega)
  obtain ⟨B1, n1, m1, s1⟩ := hss 1 (by omega)
  obtain ⟨B2, n2, m2, s2⟩ := hss 2 (by omega)
  obtain ⟨B3, n3, m3, s3⟩ := hss 3 (by omega)
  obtain ⟨B4, n4, m4, s4⟩ := hss 4 (by omega)
  obtain ⟨B5, n5, m5, s5⟩ := hss 5 (by omega)
  obtain ⟨B6, n6, m6, s6⟩ := hss 6 (by omega)
  unfold rowP ListsPost
  rw [s0, s1, s2, s3, s4, s5, s6]
  clear hss s0 s1 s2 s3 s4 s5 s6
  go_enter Tryz.func54, Tryz.ntmps54
  go_wp2_with fail
  go_ret
  exact ⟨_, rfl, Blk.new' (by simp), ((Below.refl _ _).alloc (Nat.le_refl _) _).alloc (by simp) _⟩
theorem strN_eq (y : ByteArray) : (y.toList != y.toList) = false := by simp
theorem strN_ne {x y : ByteArray} (h : x ≠ y) : (x.toList != y.toList) = true := by
  have := str_ne h
  simp only [bne, this]; rfl
set_option maxHeartbeats 1000000 in
theorem sameTexts_any (A A' : Option Addr) (c c' : Nat) (n m : Nat) (xs ys : List ByteArray) (w : World) (hl : xs.length = n) (hl' : ys.length = m) (hn : n ≤ 1048576) (hr : Rd w w.heap.size A (xs.map Value.string)) (hr' : Rd w w.heap.size A' (ys.map Value.string)) :
    Calls Tryz.prog 56 #[.slice A n c, .slice A' m c'] w fun e w' => e = .returned (.bool (decide (xs = ys))) ∧ ∃ k, w' = w.drewN k := by
  by_cases hnm : n = m
  · subst hnm
    have HL := Lib.hid hl
    have HL' := Lib.hid hl'
    clear hl hl'
    have hne : ((n : Int) != (n : Int)) = false := by simp
    go_enter Tryz.func56, Tryz.ntmps56
    go_wp2_with fail
    clear hne
    go_loopw [5] (fun i wr => ∃ k : Nat, k ≤ n ∧ i = .int .i64 (k : Int) ∧ Hid (xs.take k = ys.take k) ∧ ∃ d, wr = w.drewN d) (fun i _ => n - (intOf i).toNat)
    case atStart => exact ⟨0, by omega, rfl, rfl, 0, rfl⟩
    case round =>
      obtain ⟨k, hk, rfl, hx, d, rfl⟩ := hrel
      by_cases hlt : k < n
      · have hltI : (k : Int) < (n : Int) := by omega
        have hk1 : k < xs.length := by rw [HL.out]; exact hlt
        have hk2 : k < ys.length := by rw [HL'.out]; exact hlt
        obtain ⟨b, o, rfl, _, hc⟩ := hr k (.string (xs[k]'hk1)) (by simp [List.getElem?_eq_getElem hk1])
        obtain ⟨b', o', rfl, _, hc'⟩ := hr' k (.string (ys[k]'hk2)) (by simp [List.getElem?_eq_getElem hk2])
        have e1 : Hid (xs.take (k + 1) = xs.take k ++ [xs[k]'hk1]) := (List.take_append_getElem hk1).symm
        have e2 : Hid (ys.take (k + 1) = ys.take k ++ [ys[k]'hk2]) := (List.take_append_getElem hk2).symm
        have e3 : Hid (xs[k]? = some (xs[k]'hk1)) := List.getElem?_eq_getElem hk1
        have e4 : Hid (ys[k]? = some (ys[k]'hk2)) := List.getElem?_eq_getElem hk2
        generalize xs[k]'hk1 = x at hc e1 e3
        generalize ys[k]'hk2 = y at hc' e2 e4
        clear hr hr' hk1 hk2
        by_cases hxy : x = y
        · subst hxy
          have q1 : (x.toList == x.toList) = true := by simp
          have q2 := strN_eq x
          go_wp2_with fail
          go_quiet (fail)
          go_wp2_with fail
          go_roundw
          case rel => go_light; exact ⟨k + 1, by omega, by go_num, by show xs.take (k + 1) = ys.take (k + 1); rw [e1.out, e2.out, hx.out], _, by first | rfl | rw [World.drewN_drewN]⟩
          case measure => go_light; simp only [intOf]; omega
        · have q1 := str_ne hxy
          have q2 := strN_ne hxy
          have HX := Lib.hid hxy
          clear hxy
          go_wp2_with fail
          go_quiet (fail)
          go_wp2_with fail
          go_ret
          have hd : decide (xs = ys) = false := by
            rw [decide_eq_false_iff_not]; intro e; subst e
            exact HX.out (Option.some.inj (e3.out.symm.trans e4.out))
          exact ⟨by rw [hd]; rfl, _, by first | rfl | rw [World.drewN_drewN]⟩
      · have hltI : ¬ (k : Int) < (n : Int) := by omega
        go_wp2_with fail
        go_ret
        have hd : decide (xs = ys) = true := by
          rw [decide_eq_true_iff]
          have h1 := hx.out
          rwa [List.take_of_length_le (by have := HL.out; omega), List.take_of_length_le (by have := HL'.out; omega)] at h1
        exact ⟨by rw [hd]; rfl, _, by first | rfl | rw [World.drewN_drewN]⟩
  · have hne : ((n : Int) != (m : Int)) = true := by simp; omega
    have hd : Hid (decide (xs = ys) = false) := by
      show decide (xs = ys) = false
      rw [decide_eq_false_iff_not]; rintro rfl; omega
    clear hnm
    go_enter Tryz.func56, Tryz.ntmps56
    go_wp2_with fail
    go_ret
    exact ⟨by rw [hd.out]; rfl, 0, rfl⟩
theorem blk_mono {w w' : World} {g : Nat} {t : TypeId} {cs : Array Value} (h : Blk w g t cs) (hb : Below w.heap.size w w') : Blk w' g t cs := Blk.below h hb (Blk.lt h)
theorem rd_texts {w : World} {T : Nat → Prop} {fl : List ByteArray} {A : Option Addr} (h : TextsAt w T fl A) : Rd w w.heap.size A (fl.map Value.string) := fun k v hk => by
  rw [List.getElem?_map] at hk
  obtain ⟨s, hs, rfl⟩ := Option.map_eq_some_iff.1 hk
  obtain ⟨b, o, e, _, hc⟩ := h k s hs
  exact ⟨b, o, e, cell_lt hc, hc⟩
set_option maxHeartbeats 2000000 in
set_option maxRecDepth 100000 in
theorem sameList_any (ds : List Dep) (s s' : Value) (S S' : Nat → Prop) (w : World) (hL : ListAt w S ds s) (hL' : ListAt w S' ds s') :
    Calls Tryz.prog 55 #[s, s'] w fun e w' => e = .returned (.bool true) ∧ Below w.heap.size w w' := by
  obtain ⟨A, c, rfl, h1, h2, h3, h4⟩ := hL
  obtain ⟨A', c', rfl, h1', h2', h3', h4'⟩ := hL'
  have C := Lib.hid (refSame_any (.mk 0 ⟨#[]⟩ 0 ⟨#[]⟩ ds) (.slice A ds.length c) (.slice A' ds.length c') S S' w (lay_iff.2 ⟨A, c, rfl, h1, ⟨h2, h3⟩, h4⟩) (lay_iff.2 ⟨A', c', rfl, h1', ⟨h2', h3'⟩, h4'⟩))
  clear h4 h4'
  unfold rowD at C
  go_enter Tryz.func55, Tryz.ntmps55
  go_wp2_with fail
  refine C.out.mono ?_
  rintro e w1 ⟨rfl, hb⟩
  have HB := Lib.hid hb
  clear hb C
  go_wp2_with fail
  go_ret
  exact ⟨rfl, HB.out⟩
theorem str_same (s : ByteArray) : (s.toList == s.toList) = true := by simp
set_option maxHeartbeats 8000000 in
set_option maxRecDepth 100000 in
theorem samePackage_any (p : Pkg) (ss ss' : Nat → Value) (fs fs' : Value) (S S' T T' : Nat → Prop) (w : World) (hP : PkgAt w S T p ss fs) (hP' : PkgAt w S' T' p ss' fs') (hf : p.files.length ≤ 1048576) :
    Calls Tryz.prog 28 #[.agg (rowP p ss fs), .agg (rowP p ss' fs')] w fun e w' => e = .returned (.bool true) ∧ Below w.heap.size w w' := by
  have hss : ∀ i, i < 7 → ∃ B n m, ss i = .slice B n m := fun i hi => by obtain ⟨A, c, e, _⟩ := hP.lists i hi; exact ⟨_, _, _, e⟩
  have hss' : ∀ i, i < 7 → ∃ B n m, ss' i = .slice B n m := fun i hi => by obtain ⟨A, c, e, _⟩ := hP'.lists i hi; exact ⟨_, _, _, e⟩
  have C1 := Lib.hid (fun w => refLists_any p ss fs hss w)
  have C2 := Lib.hid (fun w => refLists_any p ss' fs' hss' w)
  have HL := Lib.hid (fun (wx : World) (hb : Below w.heap.size w wx) (i : Nat) (hi : i < 7) => sameList_any (p.ls i) (ss i) (ss' i) S S' wx ((hP.lists i hi).stay (fun _ h => h) (StayS.below' hb)) ((hP'.lists i hi).stay (fun _ h => h) (StayS.below' hb)))
  obtain ⟨Af, cf, rfl, f1, f2, f3, f4⟩ := hP.files
  obtain ⟨Ag, cg, rfl, g1, g2, g3, g4⟩ := hP'.files
  have HT := Lib.hid (fun (wx : World) (hb : Below w.heap.size w wx) => sameTexts_any Af Ag cf cg p.files.length p.files.length p.files p.files wx rfl rfl hf (rd_texts (f4.stay (fun _ h => h) (StayS.below' hb))) (rd_texts (g4.stay (fun _ h => h) (StayS.below' hb))))
  obtain ⟨w1, hw1⟩ : ∃ w1, w1 = (w.alloc (.cells (rowP p ss (.slice Af p.files.length cf)) 37)).alloc (.cells (rowP p ss' (.slice Ag p.files.length cg)) 37) := ⟨_, rfl⟩
  have hB1 : Below w.heap.size w w1 := by rw [hw1]; exact ((Below.refl _ _).alloc (Nat.le_refl _) _).alloc (by simp) _
  have K : Hid (Blk w1 w.heap.size 37 (rowP p ss (.slice Af p.files.length cf))) := by rw [hw1]; exact (Blk.new _ _ _).alloc _
  have K' : Hid (Blk w1 (w.heap.size + 1) 37 (rowP p ss' (.slice Ag p.files.length cg))) := by rw [hw1]; exact Blk.new' (by simp)
  have HB1 := Lib.hid hB1
  have HSS := Lib.hid hss
  have HSS' := Lib.hid hss'
  obtain ⟨e1, e2, e3, e4⟩ : Hid ((p.name.toList == p.name.toList) = true) ∧ Hid ((p.evr.toList == p.evr.toList) = true) ∧ Hid ((p.arch.toList == p.arch.toList) = true) ∧ Hid ((p.vendor.toList == p.vendor.toList) = true) := ⟨str_same _, str_same _, str_same _, str_same _⟩
  clear hP hP' hss hss' f1 f2 f3 f4 g1 g2 g3 g4 hB1 hf
  generalize p.files.length = NF at *
  unfold ListsPost at C1 C2
  go_enter Tryz.func28, Tryz.ntmps28
  unfold rowP at C1 C2 K K' hw1 ⊢
  go_upto_region 1 with fail
  rw [← hw1]
  clear hw1
  have k0 := K.out.cell 0
  have k1 := K.out.cell 1
  have k2 := K.out.cell 2
  have k3 := K.out.cell 3
  have k4 := K.out.cell 4
  have k5 := K.out.cell 5
  have k6 := K.out.cell 6
  have k7 := K.out.cell 7
  have k8 := K.out.cell 8
  have k9 := K.out.cell 9
  have k10 := K.out.cell 10
  have k11 := K.out.cell 11
  simp at k0 k1 k2 k3 k4 k5 k6 k7 k8 k9 k10 k11
  go_wp2_with fail
  refine (C1.out _).mono ?_
  rintro e w2 ⟨b1, rfl, hL1, hb2⟩
  have HB2 := Lib.hid (HB1.out.trans (hb2.mono HB1.out.size))
  have L2 := Lib.hid hL1
  have P2 := Lib.hid (blk_mono K.out hb2)
  have P2' := Lib.hid (blk_mono K'.out hb2)
  clear k0 k1 k2 k3 k4 k5 k6 k7 k8 k9 k10 k11 hL1 hb2 K K' C1
  have k0 := P2'.out.cell 0
  have k1 := P2'.out.cell 1
  have k2 := P2'.out.cell 2
  have k3 := P2'.out.cell 3
  have k4 := P2'.out.cell 4
  have k5 := P2'.out.cell 5
  have k6 := P2'.out.cell 6
  have k7 := P2'.out.cell 7
  have k8 := P2'.out.cell 8
  have k9 := P2'.out.cell 9
  have k10 := P2'.out.cell 10
  have k11 := P2'.out.cell 11
  simp at k0 k1 k2 k3 k4 k5 k6 k7 k8 k9 k10 k11
  go_wp2_with fail
  refine (C2.out _).mono ?_
  rintro e w3 ⟨b2, rfl, hL2, hb3⟩
  have HB3 := Lib.hid (HB2.out.trans (hb3.mono HB2.out.size))
  have L3 := Lib.hid (blk_mono L2.out hb3)
  have L3' := Lib.hid hL2
  have P3 := Lib.hid (blk_mono P2.out hb3)
  have P3' := Lib.hid (blk_mono P2'.out hb3)
  clear k0 k1 k2 k3 k4 k5 k6 k7 k8 k9 k10 k11 hL2 hb3 P2 P2' L2 C2
  have HF : Hid (∀ wx, Below w3.heap.size w3 wx → Below w.heap.size w wx ∧ Blk wx b1 35 #[ss 0, ss 1, ss 2, ss 3, ss 4, ss 5, ss 6] ∧ Blk wx b2 35 #[ss' 0, ss' 1, ss' 2, ss' 3, ss' 4, ss' 5, ss' 6] ∧
      Blk wx w.heap.size 37 #[.string p.name, .string p.evr, .string p.arch, .string p.vendor, ss 0, ss 1, ss 2, ss 3, ss 4, ss 5, ss 6, .slice Af NF cf] ∧ Blk wx (w.heap.size + 1) 37 #[.string p.name, .string p.evr, .string p.arch, .string p.vendor, ss' 0, ss' 1, ss' 2, ss' 3, ss' 4, ss' 5, ss' 6, .slice Ag NF cg]) := fun wx hb =>
    ⟨HB3.out.trans (hb.mono HB3.out.size), blk_mono L3.out hb, blk_mono L3'.out hb, blk_mono P3.out hb, blk_mono P3'.out hb⟩
  clear HB1 HB2 HB3 L3 L3' P3 P3'
  obtain ⟨R, HR⟩ : ∃ R : World → Prop, Hid (∀ wx, R wx ↔ Below w3.heap.size w3 wx) := ⟨fun wx => Below w3.heap.size w3 wx, fun _ => Iff.rfl⟩
  have HR0 : Hid (R w3) := (HR.out _).2 (Below.refl _ _)
  go_wp2_with fail
  go_loopw [7, 8] (fun v7 v8 wx => ∃ (k : Nat), k ≤ 7 ∧ v7 = .int .i64 (k : Int) ∧ Hid (R wx)) (fun v7 _ _ => 7 - (intOf v7).toNat)
  case atStart => exact ⟨0, Nat.zero_le _, rfl, HR0⟩
  case round =>
    clear HR0
    obtain ⟨k, hkn, rfl, HRr⟩ := hrel
    obtain ⟨hBr, M1, M2, M3, M4⟩ := HF.out wr ((HR.out _).1 HRr.out)
    by_cases hlt : k < 7
    · have hltI : (k : Int) < 7 := by omega
      have q1 : wr.cell? ⟨b1, k, none⟩ = some (ss k) := by rw [M1.cell]; rcases k with _ | _ | _ | _ | _ | _ | _ | k <;> first | rfl | omega
      have q2 : wr.cell? ⟨b2, k, none⟩ = some (ss' k) := by rw [M2.cell]; rcases k with _ | _ | _ | _ | _ | _ | _ | k <;> first | rfl | omega
      obtain ⟨Ba, na, ma, ea⟩ := HSS.out k hlt
      obtain ⟨Bb, nb, mb, eb⟩ := HSS'.out k hlt
      have CI := Lib.hid (HL.out wr.drew ((below_drewN' hBr 1)) k hlt)
      rw [ea] at q1 CI
      rw [eb] at q2 CI
      have HRr2 : Hid (∀ w', Below wr.drew.heap.size wr.drew w' → R w') := fun w' hb => by
        have hx1 := (HR.out _).1 HRr.out
        exact (HR.out _).2 ((below_drewN' hx1 1).trans (hb.mono hx1.size))
      clear M1 M2 M3 M4 ea eb HRr hBr
      go_wp2_with fail
      go_still_tail 8, (by kernel_rfl)
      go_wp2_with fail
      refine CI.out.mono ?_
      rintro e w4 ⟨rfl, hb4⟩
      have HR4 := Lib.hid (HRr2.out w4 hb4)
      clear hb4 CI HRr2
      go_wp2_with fail
      go_roundw
      case rel => exact ⟨k + 1, by omega, by go_num, HR4⟩
      case measure => simp [intOf]; omega
    · have hk7 : k = 7 := by omega
      subst hk7
      have HBr := Lib.hid hBr
      have C3 := Lib.hid (HT.out wr hBr)
      have m0 := M3.cell 0
      have m1 := M3.cell 1
      have m2 := M3.cell 2
      have m3 := M3.cell 3
      have m11 := M3.cell 11
      have n0 := M4.cell 0
      have n1 := M4.cell 1
      have n2 := M4.cell 2
      have n3 := M4.cell 3
      have n11 := M4.cell 11
      simp at m0 m1 m2 m3 m11 n0 n1 n2 n3 n11
      have s1 := e1.out
      have s2 := e2.out
      have s3 := e3.out
      have s4 := e4.out
      clear M1 M2 hBr
      go_wp2_with fail
      refine C3.out.mono ?_
      rintro e w4 ⟨rfl, nd, rfl⟩
      simp only [decide_true]
      go_wp2_with fail
      go_ret
      exact ⟨by simp, below_drewN' (n := nd) HBr.out⟩
/-- A list of packages in memory: each one's row. -/
def PksAt (w : World) (ps : List Pkg) (A : Option Addr) : Prop := ∀ k p, ps[k]? = some p → ∃ b o ss fs, ∃ S T : Nat → Prop, A = some ⟨b, o, none⟩ ∧ PkgAt w S T p ss fs ∧ p.files.length ≤ 1048576 ∧ ∀ j, j < 12 → w.cell? ⟨b, o + k * 12 + j, none⟩ = (rowP p ss fs)[j]?
theorem PksAt.below {w w' : World} {ps : List Pkg} {A : Option Addr} (h : PksAt w ps A) (hb : Below w.heap.size w w') : PksAt w' ps A := fun k p hk => by
  obtain ⟨b, o, ss, fs, S, T, e, hp, hf, hc⟩ := h k p hk
  refine ⟨b, o, ss, fs, S, T, e, hp.below hb, hf, fun j hj => ?_⟩
  have h2 := hc j hj
  have hlt : (⟨b, o + k * 12 + j, none⟩ : Addr).block < w.heap.size := by
    obtain ⟨v, hv⟩ : ∃ v, (rowP p ss fs)[j]? = some v := by
      rcases j with _ | _ | _ | _ | _ | _ | _ | _ | _ | _ | _ | _ | j <;> first | exact ⟨_, rfl⟩ | omega
    rw [hv] at h2
    exact cell_lt h2
  exact (World.cell?_of_block (hb.block _ hlt)).trans h2
set_option maxHeartbeats 8000000 in
set_option maxRecDepth 100000 in
theorem same_any (ps : List Pkg) (A A' : Option Addr) (n c c' : Nat) (w : World) (hn : ps.length = n) (h : PksAt w ps A) (h' : PksAt w ps A') (hz : n ≤ 1048576) :
    Calls Tryz.prog 14 #[.slice A n c, .slice A' n c'] w fun e w' => e = .returned (.bool true) ∧ Below w.heap.size w w' := by
  have HP := Lib.hid (fun wx (hb : Below w.heap.size w wx) => And.intro (h.below hb) (h'.below hb))
  have HN := Lib.hid hn
  have HB0 : Hid (Below w.heap.size w w) := Below.refl _ _
  clear h h' hn
  go_enter Tryz.func14, Tryz.ntmps14
  go_wp2_with fail
  go_loopw [5, 6] (fun v5 v6 wx => ∃ (k : Nat), k ≤ n ∧ v5 = .int .i64 (k : Int) ∧ Hid (Below w.heap.size w wx)) (fun v5 _ _ => n - (intOf v5).toNat)
  case atStart => exact ⟨0, Nat.zero_le _, rfl, HB0⟩
  case round =>
    clear HB0
    obtain ⟨k, hkn, rfl, HB⟩ := hrel
    by_cases hlt : k < n
    · have hltI : (k : Int) < (n : Int) := by omega
      obtain ⟨p, hp⟩ : ∃ p, ps[k]? = some p := ⟨_, List.getElem?_eq_getElem (by rw [HN.out]; exact hlt)⟩
      obtain ⟨hA, hA'⟩ := HP.out wr HB.out
      obtain ⟨b, o, ss, fs, S, T, rfl, hP, hf, hc⟩ := hA k p hp
      obtain ⟨b', o', ss', fs', S', T', rfl, hP', _, hc'⟩ := hA' k p hp
      have CI := Lib.hid (samePackage_any p ss ss' fs fs' S S' T T' wr.drew (hP.below (below_drewN' (Below.refl _ _) 1)) (hP'.below (below_drewN' (Below.refl _ _) 1)) hf)
      have HB2 := Lib.hid (fun w' (hb : Below wr.drew.heap.size wr.drew w') => (below_drewN' HB.out 1).trans (hb.mono HB.out.size))
      have z0 := hc 0 (by omega)
      have z1 := hc 1 (by omega)
      have z2 := hc 2 (by omega)
      have z3 := hc 3 (by omega)
      have z4 := hc 4 (by omega)
      have z5 := hc 5 (by omega)
      have z6 := hc 6 (by omega)
      have z7 := hc 7 (by omega)
      have z8 := hc 8 (by omega)
      have z9 := hc 9 (by omega)
      have z10 := hc 10 (by omega)
      have z11 := hc 11 (by omega)
      have y0 := hc' 0 (by omega)
      have y1 := hc' 1 (by omega)
      have y2 := hc' 2 (by omega)
      have y3 := hc' 3 (by omega)
      have y4 := hc' 4 (by omega)
      have y5 := hc' 5 (by omega)
      have y6 := hc' 6 (by omega)
      have y7 := hc' 7 (by omega)
      have y8 := hc' 8 (by omega)
      have y9 := hc' 9 (by omega)
      have y10 := hc' 10 (by omega)
      have y11 := hc' 11 (by omega)
      clear hA hA' hP hP' hf hc hc' hp HB
      unfold rowP at CI z0 z1 z2 z3 z4 z5 z6 z7 z8 z9 z10 z11 y0 y1 y2 y3 y4 y5 y6 y7 y8 y9 y10 y11
      simp at z0 z1 z2 z3 z4 z5 z6 z7 z8 z9 z10 z11 y0 y1 y2 y3 y4 y5 y6 y7 y8 y9 y10 y11
      go_wp2_with fail
      go_still_tail 8, (by kernel_rfl)
      go_wp2_with fail
      refine CI.out.mono ?_
      rintro e w4 ⟨rfl, hb4⟩
      have HB4 := Lib.hid (HB2.out w4 hb4)
      clear hb4 CI HB2
      go_wp2_with fail
      go_roundw
      case rel => exact ⟨k + 1, by omega, by go_num, HB4⟩
      case measure => simp [intOf]; omega
    · go_wp2_with fail
      go_ret
      exact ⟨rfl, HB.out⟩
end Go.Proofs.YtdhgiammfpjniaaGreatDoor.Ev

/- The package that a stanza tells: pack. -/
namespace Go.Proofs.YtdhgiammfpjniaaGreatDoor
set_option linter.unusedSimpArgs false
set_option linter.unusedVariables false
open Go.RowKit

structure Fs where
  T : Nat → Bs
  D : Nat → List Ev.Dep
def pkgT (S : Fs) : Ev.Pkg := ⟨mkS (S.T 0), mkS (S.T 1), mkS (S.T 2), mkS (S.T 3), fun i => if i < 7 then S.D i else [], []⟩
def okD (p : Ev.Pkg) : Bool := (List.range 7).all fun i => decide ((p.ls i).length ≤ 16) && (p.ls i).all fun d => decide (Ev.checkN d = 0)
def chkD (p : Ev.Pkg) : Int := Ev.chkN p (okD p && Ev.offersOk p)
def QD (d : Ev.Dep) (n : Int) : Prop := n = Ev.checkN d
theorem okD_iff (p : Ev.Pkg) : okD p = true ↔ ∀ i, i < 7 → (p.ls i).length ≤ 16 ∧ ∀ d ∈ p.ls i, Ev.checkN d = 0 := by
  unfold okD
  rw [List.all_eq_true]
  constructor
  · intro h i hi
    have := h i (List.mem_range.2 hi)
    rw [Bool.and_eq_true, List.all_eq_true] at this
    exact ⟨of_decide_eq_true this.1, fun d hd => of_decide_eq_true (this.2 d hd)⟩
  · intro h i hi
    obtain ⟨h1, h2⟩ := h i (List.mem_range.1 hi)
    rw [Bool.and_eq_true, List.all_eq_true]
    exact ⟨decide_eq_true h1, fun d hd => decide_eq_true (h2 d hd)⟩
theorem chkD_det {p : Ev.Pkg} {n : Int} (h : Ev.ChkR QD p n) : n = chkD p := by
  obtain ⟨b, hb, rfl⟩ := h
  unfold chkD
  by_cases hh : Ev.headN p = 0
  · rcases hb hh with ⟨rfl, i, hi, hbad⟩ | ⟨hok, rfl⟩
    · have hf : okD p = false := by
        cases ho : okD p with
        | false => rfl
        | true =>
          obtain ⟨h1, h2⟩ := (okD_iff p).1 ho i hi
          rcases hbad with h3 | ⟨d, hd, n, hn, hb⟩
          · omega
          · rw [show n = 0 from hn.trans (h2 d hd)] at hb
            simp at hb
      rw [hf]
      rfl
    · have ht : okD p = true := (okD_iff p).2 fun i hi => by
        obtain ⟨h1, h2⟩ := hok i hi
        refine ⟨h1, fun d hd => ?_⟩
        obtain ⟨n, hn, hb⟩ := h2 d hd
        rw [← hn]
        simpa using hb
      rw [ht, Bool.true_and]
  · unfold Ev.chkN
    rw [if_pos hh, if_pos hh]
/-! Their size. -/
/-! The check, in memory. -/
def DbB (w : World) (b : Nat) : Prop := ∃ cs, Blk w b 39 cs
section
variable {w0 w : World} {pb : Nat} {T : Nat → Bs} {D : Nat → List Ev.Dep} {ss : Nat → Value} {rs : Nat → Ev.Rows5} {F : List Nat}
theorem PkM.list (h : PkM w0 w pb T D ss rs F) {i : Nat} (hi : i < 7) : Ev.ListAt w (DbB w) (D i) (ss i) := by
  have hD := h.is i hi
  have hlen : (D i).length = (rs i).length := by rw [← hD, List.length_map]
  rcases (h.own i hi).2 with ⟨hv, h0⟩ | ⟨g, cap, cur, hv, hb, hg, h1, h2, h3, ht⟩
  · have hr : rs i = [] := List.length_eq_zero_iff.1 h0
    rw [hr] at hD
    rw [← hD]
    exact ⟨none, 0, hv, Nat.le_refl _, by unfold maxLen; omega, fun _ => rfl, fun j a ha => by simp at ha⟩
  · refine ⟨some ⟨g, 0, none⟩, cap, by rw [hlen]; exact hv, by omega, h2, fun e => (by cases e), fun j a ha => ?_⟩
    rw [← hD, List.getElem?_map] at ha
    obtain ⟨x, hx, rfl⟩ := Option.map_eq_some_iff.1 ha
    obtain ⟨c0, c1, c2, c3, c4⟩ := Ev.cells5_at hx
    have hown := h.own i hi
    rw [hv] at hown
    have hat : ∀ {k : Nat} {u : Value}, (Ev.cells5 (rs i))[k]? = some u → w.cell? ⟨g, k, none⟩ = some u := fun {k u} hk => by
      obtain ⟨b, e, hc⟩ := own_ats hown hk
      injection e with e
      injection e with e
      subst e
      exact hc
    have hB : ∀ b, b ∈ F → DbB w b := fun b hb => (h.dep b hb).2
    exact ⟨g, 0, x.2, rfl, ⟨cur, hg⟩, ⟨by rw [Nat.zero_add]; exact hat c0, by rw [Nat.zero_add]; exact hat c1, by rw [Nat.zero_add]; exact hat c2, by rw [Nat.zero_add]; exact hat c3, by rw [Nat.zero_add]; exact hat c4⟩, Ev.Lay.stay hB (Ev.StayS.refl _ _) x.1 x.2 (h.lay i hi x (List.mem_of_getElem? hx))⟩
theorem PkM.pkg (h : PkM w0 w pb T D ss rs F) : Ev.PkgAt w (DbB w) (fun _ => False) (pkgT ⟨T, D⟩) ss (.slice none 0 0) :=
  ⟨fun i hi => by
    have e : (pkgT ⟨T, D⟩).ls i = D i := if_pos hi
    rw [e]
    exact h.list hi, ⟨none, 0, rfl, Nat.le_refl _, by unfold maxLen; omega, fun _ => rfl, fun k s hk => by simp [pkgT] at hk⟩⟩
theorem PkM.check (h : PkM w0 w pb T D ss rs F) (hT : Ev.Tabs w) (hn : ∀ i, ∀ d ∈ D i, Ev.nodes d ≤ 100002) :
    Calls Tryz.prog 29 #[.agg (rowT T ss)] w fun e w' => e = .returned (.int .i64 (chkD (pkgT ⟨T, D⟩))) ∧ Below w.heap.size w w' := by
  have hC : Ev.ChecksAt QD (DbB w) (pkgT ⟨T, D⟩) w := by
    intro i hi d hdm t w2 hb2 hL
    have e : (pkgT ⟨T, D⟩).ls i = D i := if_pos hi
    rw [e] at hdm
    refine (Ev.depCheck_any d t (DbB w) w2 hL (fun b hb => ?_) (hT.turned (Turned.of_below hb2 []) (fun x hx => by cases hx)) (by have := hn i d hdm; omega)).mono ?_
    · obtain ⟨cs, h⟩ := hb
      exact ⟨cs, Blk.mono h hb2⟩
    · rintro e w3 ⟨rfl, hb3⟩
      exact ⟨⟨_, rfl, rfl⟩, hb3⟩
  refine (Ev.poolCheck_any QD (pkgT ⟨T, D⟩) ss (.slice none 0 0) (DbB w) (fun _ => False) w h.pkg hC hT).mono ?_
  rintro e w2 ⟨⟨n, hn, rfl⟩, hb2⟩
  exact ⟨by rw [chkD_det hn], hb2⟩
end
def zero12 : Array Value := #[.string ⟨#[]⟩, .string ⟨#[]⟩, .string ⟨#[]⟩, .string ⟨#[]⟩, .slice none 0 0, .slice none 0 0, .slice none 0 0, .slice none 0 0, .slice none 0 0, .slice none 0 0, .slice none 0 0, .slice none 0 0]
end Go.Proofs.YtdhgiammfpjniaaGreatDoor
