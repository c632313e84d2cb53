/- Parts of the proof. -/
import Derived.Test.YtdhgiammfpjniaaGreatDoorZram
import Derived.StillTailTactics
import Derived.Deep.QuietTactic
import Derived.BigQuiet
import Derived.Test.YtdhgiammfpjniaaGreatDoorZran
import Derived.Deep.LoopGhost
import Derived.Laws.AppendOwnNone
namespace Go.Proofs.YtdhgiammfpjniaaGreatDoor.Ev
set_option linter.unusedSimpArgs false
set_option linter.unusedVariables false
open Go.RowKit
def arQ7 (d : Dep) : Prop := ∀ (s s' : Value) (S S' : Nat → Prop) (w : World), Lay w S d s → Lay w S' d s' → Calls Tryz.prog 118 #[.agg (rowD d s), .agg (rowD d s')] w fun e w' => e = .returned (.bool true) ∧ Below w.heap.size w w'
theorem anQh (a : ByteArray) : (a.toList != a.toList) = false ∧ (a.toList == a.toList) = true := by simp
set_option maxHeartbeats 4000000 in
set_option maxRecDepth 100000 in
theorem akQh (d : Dep) (ih : ∀ a ∈ d.args, arQ7 a) : arQ7 d := by
 intro s s' S S' w hL hL'
 obtain ⟨A, c, rfl, hc1, hc2, hA⟩ := hL.args_
 obtain ⟨A', c', rfl, hc1', hc2', hA'⟩ := hL'.args_
 obtain ⟨w1, hw1⟩ : ∃ w1, w1 = (w.alloc (.cells (rowD d (.slice A d.args.length c)) 39)).alloc (.cells (rowD d (.slice A' d.args.length c')) 39) := ⟨_, rfl⟩
 have hB1 : Below w.heap.size w w1 := by rw [hw1]; exact ((Below.refl _ _).alloc (Nat.le_refl _) _).alloc (by simp) _
 have K : Blk w1 w.heap.size 39 (rowD d (.slice A d.args.length c)) := by rw [hw1]; exact (Blk.new _ _ _).alloc _
 have K' : Blk w1 (w.heap.size + 1) 39 (rowD d (.slice A' d.args.length c')) := by rw [hw1]; exact Blk.new' (by simp)
 have hz1 : w1.heap.size = w.heap.size + 2 := by rw [hw1]; simp
 have hA1 : ArgsAt w1 S d.args A := hA.stay (fun _ h => h) (StayS.below' hB1)
 have hA1' : ArgsAt w1 S' d.args A' := hA'.stay (fun _ h => h) (StayS.below' hB1)
 have HF : Hid (∀ wx, Below w1.heap.size w1 wx → Blk wx w.heap.size 39 (rowD d (.slice A d.args.length c)) ∧ Blk wx (w.heap.size + 1) 39 (rowD d (.slice A' d.args.length c')) ∧ ArgsAt wx S d.args A ∧ ArgsAt wx S' d.args A' ∧ Below w.heap.size w wx) := fun wx hb => ⟨K.below hb (by omega), K'.below hb (by omega), hA1.stay (fun _ h => h) (StayS.below' hb), hA1'.stay (fun _ h => h) (StayS.below' hb), hB1.trans (hb.mono (by omega))⟩
 have HIH := hQQ ih
 have hargs : d.args.length ≤ 9223372036854775807 := by unfold maxLen at hc2; omega
 obtain ⟨R, HR⟩ : ∃ R : World → Prop, Hid (∀ wx, R wx ↔ Below w1.heap.size w1 wx) := ⟨fun wx => Below w1.heap.size w1 wx, fun _ => Iff.rfl⟩
 have HR0 : Hid (R w1) := (HR.out _).2 (Below.refl _ _)
 obtain ⟨e1, e2⟩ := anQh d.name
 obtain ⟨e3, e4⟩ := anQh d.evr
 clear hL hL' hA hA' hB1 K K' hA1 hA1' ih hz1 hc2 hc2'
 subst hw1
 unfold rowD at HR HR0 HF ⊢
 go_enter Tryz.func118, Tryz.ntmps118
 go_wp2_with fail
 go_loopw [5] (fun v5 wx => ∃ (k : Nat), k ≤ d.args.length ∧ v5 = .int .i64 (k : Int) ∧ Hid (R wx)) (fun v5 _ => d.args.length - (intOf v5).toNat)
 case atStart => exact ⟨0, Nat.zero_le _, rfl, HR0⟩
 case round =>
  clear HR0
  obtain ⟨k, hkn, rfl, HRr⟩ := hrel
  obtain ⟨Kr, Kr', hAr, hAr', hBr⟩ := HF.out wr ((HR.out _).1 HRr.out)
  have c4 := Kr.cell 4
  have c4' := Kr'.cell 4
  simp at c4 c4'
  by_cases hlt : k < d.args.length
  ·obtain ⟨a, ha⟩ : ∃ a, d.args[k]? = some a := ⟨_, List.getElem?_eq_getElem hlt⟩
   obtain ⟨b1, o1, t1, hA1, _, hC1, hLa1⟩ := hAr k a ha
   obtain ⟨b2, o2, t2, hA2, _, hC2, hLa2⟩ := hAr' k a ha
   obtain ⟨At1, ct1, rfl, _, _⟩ := hLa1.form_
   obtain ⟨At2, ct2, rfl, _, _⟩ := hLa2.form_
   subst hA1
   subst hA2
   obtain ⟨g0, g1, g2, g3, g4⟩ := hC1
   obtain ⟨h0, h1, h2, h3, h4⟩ := hC2
   have CI := hQQ (HIH.out a (List.mem_of_getElem? ha) _ _ S S' wr.drew (Lay.stay (fun _ h => h) (show StayS S wr wr.drew from fun _ _ _ => rfl) a _ hLa1) (Lay.stay (fun _ h => h) (show StayS S' wr wr.drew from fun _ _ _ => rfl) a _ hLa2))
   have HRr2 : Hid (∀ w', Below wr.drew.heap.size wr.drew w' → R w') := fun w' hb => by
    have hx1 := (HR.out _).1 HRr.out
    exact (HR.out _).2 ((aaQs hx1 1).trans (hb.mono hx1.size))
   clear Kr Kr' hAr hAr' hLa1 hLa2 ha HRr
   unfold rowD at CI
   go_wp2_with fail
   go_still_tail 10, (by kernel_rfl)
   go_wp2_with fail
   refine CI.out.mono ?_
   rintro e w3 ⟨rfl, hb3⟩
   have HR3 := hQQ (HRr2.out w3 hb3)
   clear hb3 CI HRr2
   go_wp2_with fail
   go_roundw
   case rel => exact ⟨k + 1, by omega, by go_num, HR3⟩
   case measure => simp [intOf]; omega
  ·have HB := hQQ hBr
   clear Kr Kr' hAr hAr' hBr
   go_wp2_with fail
   go_ret
   exact ⟨rfl, HB.out⟩
theorem amQe (d : Dep) : arQ7 d := by
 induction d using Dep.ind with
 | h k n o e xs ih => exact akQh _ ih
def ahQw (ss : Nat → Value) (w : World) (e : Ending) (w' : World) : Prop :=
 ∃ b, e = .returned (.slice (some ⟨b, 0, none⟩) 7 7) ∧ Blk w' b 35 #[ss 0, ss 1, ss 2, ss 3, ss 4, ss 5, ss 6] ∧ Below w.heap.size w w'
set_option maxHeartbeats 2000000 in
set_option maxRecDepth 100000 in
theorem afQ8 (p : Pkg) (ss : Nat → Value) (fs : Value) (hss : ∀ i, i < 7 → ∃ B n m, ss i = .slice B n m) (w : World) :
 Calls Tryz.prog 54 #[.agg (rowP p ss fs)] w (ahQw ss w) := by
 obtain ⟨B0, n0, m0, s0⟩ := hss 0 (by omega)
 obtain ⟨B1, n1, m1, s1⟩ := hss 1 (by omega)
 obtain ⟨B2, n2, m2, s2⟩ := hss 2 (by omega)
 obtain ⟨B3, n3, m3, s3⟩ := hss 3 (by omega)
 obtain ⟨B4, n4, m4, s4⟩ := hss 4 (by omega)
 obtain ⟨B5, n5, m5, s5⟩ := hss 5 (by omega)
 obtain ⟨B6, n6, m6, s6⟩ := hss 6 (by omega)
 unfold rowP ahQw
 rw [s0, s1, s2, s3, s4, s5, s6]
 clear hss s0 s1 s2 s3 s4 s5 s6
 go_enter Tryz.func54, Tryz.ntmps54
 go_wp2_with fail
 go_ret
 exact ⟨_, rfl, Blk.new' (by simp), ((Below.refl _ _).alloc (Nat.le_refl _) _).alloc (by simp) _⟩
theorem strN_eq (y : ByteArray) : (y.toList != y.toList) = false := by simp
theorem strN_ne {x y : ByteArray} (h : x ≠ y) : (x.toList != y.toList) = true := by
 have := adQc h
 simp only [bne, this]; rfl
set_option maxHeartbeats 1000000 in
theorem aiQz (A A' : Option Addr) (c c' : Nat) (n m : Nat) (xs ys : List ByteArray) (w : World) (hl : xs.length = n) (hl' : ys.length = m) (hn : n ≤ 1048576) (hr : Rd w w.heap.size A (xs.map Value.string)) (hr' : Rd w w.heap.size A' (ys.map Value.string)) :
 Calls Tryz.prog 56 #[.slice A n c, .slice A' m c'] w fun e w' => e = .returned (.bool (decide (xs = ys))) ∧ ∃ k, w' = w.drewN k := by
 by_cases hnm : n = m
 ·subst hnm
  have HL := hQQ hl
  have HL' := hQQ hl'
  clear hl hl'
  have hne : ((n : Int) != (n : Int)) = false := by simp
  go_enter Tryz.func56, Tryz.ntmps56
  go_wp2_with fail
  clear hne
  go_loopw [5] (fun i wr => ∃ k : Nat, k ≤ n ∧ i = .int .i64 (k : Int) ∧ Hid (xs.take k = ys.take k) ∧ ∃ d, wr = w.drewN d) (fun i _ => n - (intOf i).toNat)
  case atStart => exact ⟨0, by omega, rfl, rfl, 0, rfl⟩
  case round =>
   obtain ⟨k, hk, rfl, hx, d, rfl⟩ := hrel
   by_cases hlt : k < n
   ·have hltI : (k : Int) < (n : Int) := by omega
    have hk1 : k < xs.length := by rw [HL.out]; exact hlt
    have hk2 : k < ys.length := by rw [HL'.out]; exact hlt
    obtain ⟨b, o, rfl, _, hc⟩ := hr k (.string (xs[k]'hk1)) (by simp [List.getElem?_eq_getElem hk1])
    obtain ⟨b', o', rfl, _, hc'⟩ := hr' k (.string (ys[k]'hk2)) (by simp [List.getElem?_eq_getElem hk2])
    have e1 : Hid (xs.take (k + 1) = xs.take k ++ [xs[k]'hk1]) := (List.take_append_getElem hk1).symm
    have e2 : Hid (ys.take (k + 1) = ys.take k ++ [ys[k]'hk2]) := (List.take_append_getElem hk2).symm
    have e3 : Hid (xs[k]? = some (xs[k]'hk1)) := List.getElem?_eq_getElem hk1
    have e4 : Hid (ys[k]? = some (ys[k]'hk2)) := List.getElem?_eq_getElem hk2
    generalize xs[k]'hk1 = x at hc e1 e3
    generalize ys[k]'hk2 = y at hc' e2 e4
    clear hr hr' hk1 hk2
    by_cases hxy : x = y
    ·subst hxy
     have q1 : (x.toList == x.toList) = true := by simp
     have q2 := strN_eq x
     go_wp2_with fail
     go_quiet (fail)
     go_wp2_with fail
     go_roundw
     case rel => go_light; exact ⟨k + 1, by omega, by go_num, by show xs.take (k + 1) = ys.take (k + 1); rw [e1.out, e2.out, hx.out], _, by first | rfl | rw [World.drewN_drewN]⟩
     case measure => go_light; simp only [intOf]; omega
    ·have q1 := adQc hxy
     have q2 := strN_ne hxy
     have HX := hQQ hxy
     clear hxy
     go_wp2_with fail
     go_quiet (fail)
     go_wp2_with fail
     go_ret
     have hd : decide (xs = ys) = false := by
      rw [decide_eq_false_iff_not]; intro e; subst e
      exact HX.out (Option.some.inj (e3.out.symm.trans e4.out))
     exact ⟨by rw [hd]; rfl, _, by first | rfl | rw [World.drewN_drewN]⟩
   ·have hltI : ¬ (k : Int) < (n : Int) := by omega
    go_wp2_with fail
    go_ret
    have hd : decide (xs = ys) = true := by
     rw [decide_eq_true_iff]
     have h1 := hx.out
     rwa [List.take_of_length_le (by have := HL.out; omega), List.take_of_length_le (by have := HL'.out; omega)] at h1
    exact ⟨by rw [hd]; rfl, _, by first | rfl | rw [World.drewN_drewN]⟩
 ·have hne : ((n : Int) != (m : Int)) = true := by simp; omega
  have hd : Hid (decide (xs = ys) = false) := by
   show decide (xs = ys) = false
   rw [decide_eq_false_iff_not]; rintro rfl; omega
  clear hnm
  go_enter Tryz.func56, Tryz.ntmps56
  go_wp2_with fail
  go_ret
  exact ⟨by rw [hd.out]; rfl, 0, rfl⟩
theorem acQp {w w' : World} {g : Nat} {t : TypeId} {cs : Array Value} (h : Blk w g t cs) (hb : Below w.heap.size w w') : Blk w' g t cs := Blk.below h hb (Blk.lt h)
theorem anQj {w : World} {T : Nat → Prop} {fl : List ByteArray} {A : Option Addr} (h : TextsAt w T fl A) : Rd w w.heap.size A (fl.map Value.string) := fun k v hk => by
 rw [List.getElem?_map] at hk
 obtain ⟨s, hs, rfl⟩ := Option.map_eq_some_iff.1 hk
 obtain ⟨b, o, e, _, hc⟩ := h k s hs
 exact ⟨b, o, e, aeQu hc, hc⟩
set_option maxHeartbeats 2000000 in
set_option maxRecDepth 100000 in
theorem akQb (ds : List Dep) (s s' : Value) (S S' : Nat → Prop) (w : World) (hL : ListAt w S ds s) (hL' : ListAt w S' ds s') :
 Calls Tryz.prog 55 #[s, s'] w fun e w' => e = .returned (.bool true) ∧ Below w.heap.size w w' := by
 obtain ⟨A, c, rfl, h1, h2, h3, h4⟩ := hL
 obtain ⟨A', c', rfl, h1', h2', h3', h4'⟩ := hL'
 have C := hQQ (amQe (.mk 0 ⟨#[]⟩ 0 ⟨#[]⟩ ds) (.slice A ds.length c) (.slice A' ds.length c') S S' w (lay_iff.2 ⟨A, c, rfl, h1, ⟨h2, h3⟩, h4⟩) (lay_iff.2 ⟨A', c', rfl, h1', ⟨h2', h3'⟩, h4'⟩))
 clear h4 h4'
 unfold rowD at C
 go_enter Tryz.func55, Tryz.ntmps55
 go_wp2_with fail
 refine C.out.mono ?_
 rintro e w1 ⟨rfl, hb⟩
 have HB := hQQ hb
 clear hb C
 go_wp2_with fail
 go_ret
 exact ⟨rfl, HB.out⟩
theorem agQi (s : ByteArray) : (s.toList == s.toList) = true := by simp
set_option maxHeartbeats 8000000 in
set_option maxRecDepth 100000 in
theorem agQ4 (p : Pkg) (ss ss' : Nat → Value) (fs fs' : Value) (S S' T T' : Nat → Prop) (w : World) (hP : PkgAt w S T p ss fs) (hP' : PkgAt w S' T' p ss' fs') (hf : p.files.length ≤ 1048576) :
 Calls Tryz.prog 28 #[.agg (rowP p ss fs), .agg (rowP p ss' fs')] w fun e w' => e = .returned (.bool true) ∧ Below w.heap.size w w' := by
 have hss : ∀ i, i < 7 → ∃ B n m, ss i = .slice B n m := fun i hi => by obtain ⟨A, c, e, _⟩ := hP.lists i hi; exact ⟨_, _, _, e⟩
 have hss' : ∀ i, i < 7 → ∃ B n m, ss' i = .slice B n m := fun i hi => by obtain ⟨A, c, e, _⟩ := hP'.lists i hi; exact ⟨_, _, _, e⟩
 have C1 := hQQ (fun w => afQ8 p ss fs hss w)
 have C2 := hQQ (fun w => afQ8 p ss' fs' hss' w)
 have HL := hQQ (fun (wx : World) (hb : Below w.heap.size w wx) (i : Nat) (hi : i < 7) => akQb (p.ls i) (ss i) (ss' i) S S' wx ((hP.lists i hi).stay (fun _ h => h) (StayS.below' hb)) ((hP'.lists i hi).stay (fun _ h => h) (StayS.below' hb)))
 obtain ⟨Af, cf, rfl, f1, f2, f3, f4⟩ := hP.files
 obtain ⟨Ag, cg, rfl, g1, g2, g3, g4⟩ := hP'.files
 have HT := hQQ (fun (wx : World) (hb : Below w.heap.size w wx) => aiQz Af Ag cf cg p.files.length p.files.length p.files p.files wx rfl rfl hf (anQj (f4.stay (fun _ h => h) (StayS.below' hb))) (anQj (g4.stay (fun _ h => h) (StayS.below' hb))))
 obtain ⟨w1, hw1⟩ : ∃ w1, w1 = (w.alloc (.cells (rowP p ss (.slice Af p.files.length cf)) 37)).alloc (.cells (rowP p ss' (.slice Ag p.files.length cg)) 37) := ⟨_, rfl⟩
 have hB1 : Below w.heap.size w w1 := by rw [hw1]; exact ((Below.refl _ _).alloc (Nat.le_refl _) _).alloc (by simp) _
 have K : Hid (Blk w1 w.heap.size 37 (rowP p ss (.slice Af p.files.length cf))) := by rw [hw1]; exact (Blk.new _ _ _).alloc _
 have K' : Hid (Blk w1 (w.heap.size + 1) 37 (rowP p ss' (.slice Ag p.files.length cg))) := by rw [hw1]; exact Blk.new' (by simp)
 have HB1 := hQQ hB1
 have HSS := hQQ hss
 have HSS' := hQQ hss'
 obtain ⟨e1, e2, e3, e4⟩ : Hid ((p.name.toList == p.name.toList) = true) ∧ Hid ((p.evr.toList == p.evr.toList) = true) ∧ Hid ((p.arch.toList == p.arch.toList) = true) ∧ Hid ((p.vendor.toList == p.vendor.toList) = true) := ⟨agQi _, agQi _, agQi _, agQi _⟩
 clear hP hP' hss hss' f1 f2 f3 f4 g1 g2 g3 g4 hB1 hf
 generalize p.files.length = NF at *
 unfold ahQw at C1 C2
 go_enter Tryz.func28, Tryz.ntmps28
 unfold rowP at C1 C2 K K' hw1 ⊢
 go_upto_region 1 with fail
 rw [← hw1]
 clear hw1
 have k0 := K.out.cell 0
 have k1 := K.out.cell 1
 have k2 := K.out.cell 2
 have k3 := K.out.cell 3
 have k4 := K.out.cell 4
 have k5 := K.out.cell 5
 have k6 := K.out.cell 6
 have k7 := K.out.cell 7
 have k8 := K.out.cell 8
 have k9 := K.out.cell 9
 have k10 := K.out.cell 10
 have k11 := K.out.cell 11
 simp at k0 k1 k2 k3 k4 k5 k6 k7 k8 k9 k10 k11
 go_wp2_with fail
 refine (C1.out _).mono ?_
 rintro e w2 ⟨b1, rfl, hL1, hb2⟩
 have HB2 := hQQ (HB1.out.trans (hb2.mono HB1.out.size))
 have L2 := hQQ hL1
 have P2 := hQQ (acQp K.out hb2)
 have P2' := hQQ (acQp K'.out hb2)
 clear k0 k1 k2 k3 k4 k5 k6 k7 k8 k9 k10 k11 hL1 hb2 K K' C1
 have k0 := P2'.out.cell 0
 have k1 := P2'.out.cell 1
 have k2 := P2'.out.cell 2
 have k3 := P2'.out.cell 3
 have k4 := P2'.out.cell 4
 have k5 := P2'.out.cell 5
 have k6 := P2'.out.cell 6
 have k7 := P2'.out.cell 7
 have k8 := P2'.out.cell 8
 have k9 := P2'.out.cell 9
 have k10 := P2'.out.cell 10
 have k11 := P2'.out.cell 11
 simp at k0 k1 k2 k3 k4 k5 k6 k7 k8 k9 k10 k11
 go_wp2_with fail
 refine (C2.out _).mono ?_
 rintro e w3 ⟨b2, rfl, hL2, hb3⟩
 have HB3 := hQQ (HB2.out.trans (hb3.mono HB2.out.size))
 have L3 := hQQ (acQp L2.out hb3)
 have L3' := hQQ hL2
 have P3 := hQQ (acQp P2.out hb3)
 have P3' := hQQ (acQp P2'.out hb3)
 clear k0 k1 k2 k3 k4 k5 k6 k7 k8 k9 k10 k11 hL2 hb3 P2 P2' L2 C2
 have HF : Hid (∀ wx, Below w3.heap.size w3 wx → Below w.heap.size w wx ∧ Blk wx b1 35 #[ss 0, ss 1, ss 2, ss 3, ss 4, ss 5, ss 6] ∧ Blk wx b2 35 #[ss' 0, ss' 1, ss' 2, ss' 3, ss' 4, ss' 5, ss' 6] ∧
  Blk wx w.heap.size 37 #[.string p.name, .string p.evr, .string p.arch, .string p.vendor, ss 0, ss 1, ss 2, ss 3, ss 4, ss 5, ss 6, .slice Af NF cf] ∧ Blk wx (w.heap.size + 1) 37 #[.string p.name, .string p.evr, .string p.arch, .string p.vendor, ss' 0, ss' 1, ss' 2, ss' 3, ss' 4, ss' 5, ss' 6, .slice Ag NF cg]) := fun wx hb =>
  ⟨HB3.out.trans (hb.mono HB3.out.size), acQp L3.out hb, acQp L3'.out hb, acQp P3.out hb, acQp P3'.out hb⟩
 clear HB1 HB2 HB3 L3 L3' P3 P3'
 obtain ⟨R, HR⟩ : ∃ R : World → Prop, Hid (∀ wx, R wx ↔ Below w3.heap.size w3 wx) := ⟨fun wx => Below w3.heap.size w3 wx, fun _ => Iff.rfl⟩
 have HR0 : Hid (R w3) := (HR.out _).2 (Below.refl _ _)
 go_wp2_with fail
 go_loopw [7, 8] (fun v7 v8 wx => ∃ (k : Nat), k ≤ 7 ∧ v7 = .int .i64 (k : Int) ∧ Hid (R wx)) (fun v7 _ _ => 7 - (intOf v7).toNat)
 case atStart => exact ⟨0, Nat.zero_le _, rfl, HR0⟩
 case round =>
  clear HR0
  obtain ⟨k, hkn, rfl, HRr⟩ := hrel
  obtain ⟨hBr, M1, M2, M3, M4⟩ := HF.out wr ((HR.out _).1 HRr.out)
  by_cases hlt : k < 7
  ·have hltI : (k : Int) < 7 := by omega
   have q1 : wr.cell? ⟨b1, k, none⟩ = some (ss k) := by rw [M1.cell]; rcases k with _ | _ | _ | _ | _ | _ | _ | k <;> first | rfl | omega
   have q2 : wr.cell? ⟨b2, k, none⟩ = some (ss' k) := by rw [M2.cell]; rcases k with _ | _ | _ | _ | _ | _ | _ | k <;> first | rfl | omega
   obtain ⟨Ba, na, ma, ea⟩ := HSS.out k hlt
   obtain ⟨Bb, nb, mb, eb⟩ := HSS'.out k hlt
   have CI := hQQ (HL.out wr.drew ((aaQs hBr 1)) k hlt)
   rw [ea] at q1 CI
   rw [eb] at q2 CI
   have HRr2 : Hid (∀ w', Below wr.drew.heap.size wr.drew w' → R w') := fun w' hb => by
    have hx1 := (HR.out _).1 HRr.out
    exact (HR.out _).2 ((aaQs hx1 1).trans (hb.mono hx1.size))
   clear M1 M2 M3 M4 ea eb HRr hBr
   go_wp2_with fail
   go_still_tail 8, (by kernel_rfl)
   go_wp2_with fail
   refine CI.out.mono ?_
   rintro e w4 ⟨rfl, hb4⟩
   have HR4 := hQQ (HRr2.out w4 hb4)
   clear hb4 CI HRr2
   go_wp2_with fail
   go_roundw
   case rel => exact ⟨k + 1, by omega, by go_num, HR4⟩
   case measure => simp [intOf]; omega
  ·have hk7 : k = 7 := by omega
   subst hk7
   have HBr := hQQ hBr
   have C3 := hQQ (HT.out wr hBr)
   have m0 := M3.cell 0
   have m1 := M3.cell 1
   have m2 := M3.cell 2
   have m3 := M3.cell 3
   have m11 := M3.cell 11
   have n0 := M4.cell 0
   have n1 := M4.cell 1
   have n2 := M4.cell 2
   have n3 := M4.cell 3
   have n11 := M4.cell 11
   simp at m0 m1 m2 m3 m11 n0 n1 n2 n3 n11
   have s1 := e1.out
   have s2 := e2.out
   have s3 := e3.out
   have s4 := e4.out
   clear M1 M2 hBr
   go_wp2_with fail
   refine C3.out.mono ?_
   rintro e w4 ⟨rfl, nd, rfl⟩
   simp only [decide_true]
   go_wp2_with fail
   go_ret
   exact ⟨by simp, aaQs (n := nd) HBr.out⟩
def PksAt (w : World) (ps : List Pkg) (A : Option Addr) : Prop := ∀ k p, ps[k]? = some p → ∃ b o ss fs, ∃ S T : Nat → Prop, A = some ⟨b, o, none⟩ ∧ PkgAt w S T p ss fs ∧ p.files.length ≤ 1048576 ∧ ∀ j, j < 12 → w.cell? ⟨b, o + k * 12 + j, none⟩ = (rowP p ss fs)[j]?
theorem PksAt.below {w w' : World} {ps : List Pkg} {A : Option Addr} (h : PksAt w ps A) (hb : Below w.heap.size w w') : PksAt w' ps A := fun k p hk => by
 obtain ⟨b, o, ss, fs, S, T, e, hp, hf, hc⟩ := h k p hk
 refine ⟨b, o, ss, fs, S, T, e, hp.below hb, hf, fun j hj => ?_⟩
 have h2 := hc j hj
 have hlt : (⟨b, o + k * 12 + j, none⟩ : Addr).block < w.heap.size := by
  obtain ⟨v, hv⟩ : ∃ v, (rowP p ss fs)[j]? = some v := by
   rcases j with _ | _ | _ | _ | _ | _ | _ | _ | _ | _ | _ | _ | j <;> first | exact ⟨_, rfl⟩ | omega
  rw [hv] at h2
  exact aeQu h2
 exact (World.cell?_of_block (hb.block _ hlt)).trans h2
set_option maxHeartbeats 8000000 in
set_option maxRecDepth 100000 in
theorem same_any (ps : List Pkg) (A A' : Option Addr) (n c c' : Nat) (w : World) (hn : ps.length = n) (h : PksAt w ps A) (h' : PksAt w ps A') (hz : n ≤ 1048576) :
 Calls Tryz.prog 14 #[.slice A n c, .slice A' n c'] w fun e w' => e = .returned (.bool true) ∧ Below w.heap.size w w' := by
 have HP := hQQ (fun wx (hb : Below w.heap.size w wx) => And.intro (h.below hb) (h'.below hb))
 have HN := hQQ hn
 have HB0 : Hid (Below w.heap.size w w) := Below.refl _ _
 clear h h' hn
 go_enter Tryz.func14, Tryz.ntmps14
 go_wp2_with fail
 go_loopw [5, 6] (fun v5 v6 wx => ∃ (k : Nat), k ≤ n ∧ v5 = .int .i64 (k : Int) ∧ Hid (Below w.heap.size w wx)) (fun v5 _ _ => n - (intOf v5).toNat)
 case atStart => exact ⟨0, Nat.zero_le _, rfl, HB0⟩
 case round =>
  clear HB0
  obtain ⟨k, hkn, rfl, HB⟩ := hrel
  by_cases hlt : k < n
  ·have hltI : (k : Int) < (n : Int) := by omega
   obtain ⟨p, hp⟩ : ∃ p, ps[k]? = some p := ⟨_, List.getElem?_eq_getElem (by rw [HN.out]; exact hlt)⟩
   obtain ⟨hA, hA'⟩ := HP.out wr HB.out
   obtain ⟨b, o, ss, fs, S, T, rfl, hP, hf, hc⟩ := hA k p hp
   obtain ⟨b', o', ss', fs', S', T', rfl, hP', _, hc'⟩ := hA' k p hp
   have CI := hQQ (agQ4 p ss ss' fs fs' S S' T T' wr.drew (hP.below (aaQs (Below.refl _ _) 1)) (hP'.below (aaQs (Below.refl _ _) 1)) hf)
   have HB2 := hQQ (fun w' (hb : Below wr.drew.heap.size wr.drew w') => (aaQs HB.out 1).trans (hb.mono HB.out.size))
   have z0 := hc 0 (by omega)
   have z1 := hc 1 (by omega)
   have z2 := hc 2 (by omega)
   have z3 := hc 3 (by omega)
   have z4 := hc 4 (by omega)
   have z5 := hc 5 (by omega)
   have z6 := hc 6 (by omega)
   have z7 := hc 7 (by omega)
   have z8 := hc 8 (by omega)
   have z9 := hc 9 (by omega)
   have z10 := hc 10 (by omega)
   have z11 := hc 11 (by omega)
   have y0 := hc' 0 (by omega)
   have y1 := hc' 1 (by omega)
   have y2 := hc' 2 (by omega)
   have y3 := hc' 3 (by omega)
   have y4 := hc' 4 (by omega)
   have y5 := hc' 5 (by omega)
   have y6 := hc' 6 (by omega)
   have y7 := hc' 7 (by omega)
   have y8 := hc' 8 (by omega)
   have y9 := hc' 9 (by omega)
   have y10 := hc' 10 (by omega)
   have y11 := hc' 11 (by omega)
   clear hA hA' hP hP' hf hc hc' hp HB
   unfold rowP at CI z0 z1 z2 z3 z4 z5 z6 z7 z8 z9 z10 z11 y0 y1 y2 y3 y4 y5 y6 y7 y8 y9 y10 y11
   simp at z0 z1 z2 z3 z4 z5 z6 z7 z8 z9 z10 z11 y0 y1 y2 y3 y4 y5 y6 y7 y8 y9 y10 y11
   go_wp2_with fail
   go_still_tail 8, (by kernel_rfl)
   go_wp2_with fail
   refine CI.out.mono ?_
   rintro e w4 ⟨rfl, hb4⟩
   have HB4 := hQQ (HB2.out w4 hb4)
   clear hb4 CI HB2
   go_wp2_with fail
   go_roundw
   case rel => exact ⟨k + 1, by omega, by go_num, HB4⟩
   case measure => simp [intOf]; omega
  ·go_wp2_with fail
   go_ret
   exact ⟨rfl, HB.out⟩
end Go.Proofs.YtdhgiammfpjniaaGreatDoor.Ev

namespace Go.Proofs.YtdhgiammfpjniaaGreatDoor
set_option linter.unusedSimpArgs false
set_option linter.unusedVariables false
open Go.RowKit
def okD (p : Ev.Pkg) : Bool := (List.range 7).all fun i => decide ((p.ls i).length ≤ 16) && (p.ls i).all fun d => decide (Ev.checkN d = 0)
def chkD (p : Ev.Pkg) : Int := Ev.chkN p (okD p && Ev.offersOk p)
def QD (d : Ev.Dep) (n : Int) : Prop := n = Ev.checkN d
theorem amQu (p : Ev.Pkg) : okD p = true ↔ ∀ i, i < 7 → (p.ls i).length ≤ 16 ∧ ∀ d ∈ p.ls i, Ev.checkN d = 0 := by
 unfold okD
 rw [List.all_eq_true]
 constructor
 ·intro h i hi
  have := h i (List.mem_range.2 hi)
  rw [Bool.and_eq_true, List.all_eq_true] at this
  exact ⟨of_decide_eq_true this.1, fun d hd => of_decide_eq_true (this.2 d hd)⟩
 ·intro h i hi
  obtain ⟨h1, h2⟩ := h i (List.mem_range.1 hi)
  rw [Bool.and_eq_true, List.all_eq_true]
  exact ⟨decide_eq_true h1, fun d hd => decide_eq_true (h2 d hd)⟩
theorem chkD_det {p : Ev.Pkg} {n : Int} (h : Ev.ChkR QD p n) : n = chkD p := by
 obtain ⟨b, hb, rfl⟩ := h
 unfold chkD
 by_cases hh : Ev.headN p = 0
 ·rcases hb hh with ⟨rfl, i, hi, hbad⟩ | ⟨hok, rfl⟩
  ·have hf : okD p = false := by
    cases ho : okD p with
    | false => rfl
    | true =>
      obtain ⟨h1, h2⟩ := (amQu p).1 ho i hi
      rcases hbad with h3 | ⟨d, hd, n, hn, hb⟩
      ·omega
      ·rw [show n = 0 from hn.trans (h2 d hd)] at hb
       simp at hb
   rw [hf]
   rfl
  ·have ht : okD p = true := (amQu p).2 fun i hi => by
    obtain ⟨h1, h2⟩ := hok i hi
    refine ⟨h1, fun d hd => ?_⟩
    obtain ⟨n, hn, hb⟩ := h2 d hd
    rw [← hn]
    simpa using hb
   rw [ht, Bool.true_and]
 ·unfold Ev.chkN
  rw [if_pos hh, if_pos hh]
def DbB (w : World) (b : Nat) : Prop := ∃ cs, Blk w b 39 cs
section
variable {w0 w : World} {pb : Nat} {T : Nat → Bs} {D : Nat → List Ev.Dep} {ss : Nat → Value} {rs : Nat → Ev.Rows5} {F : List Nat}
end
section
variable {w0 w w' : World} {B sm pb m1 m2 : Nat} {s : Stz} {vs : List Value} {T : Nat → Bs} {D : Nat → List Ev.Dep}
end
theorem set12 {w : World} {g : Nat} {z0 z1 z2 z3 z4 z5 z6 z7 z8 z9 z10 z11 : Value} (h : Blk w g 37 #[z0, z1, z2, z3, z4, z5, z6, z7, z8, z9, z10, z11]) (a0 a1 a2 a3 a4 a5 a6 a7 a8 a9 a10 a11 : Value) : Blk ((((((((((((w.setCell ⟨g, 0, none⟩ (a0)).setCell ⟨g, 1, none⟩ (a1)).setCell ⟨g, 2, none⟩ (a2)).setCell ⟨g, 3, none⟩ (a3)).setCell ⟨g, 4, none⟩ (a4)).setCell ⟨g, 5, none⟩ (a5)).setCell ⟨g, 6, none⟩ (a6)).setCell ⟨g, 7, none⟩ (a7)).setCell ⟨g, 8, none⟩ (a8)).setCell ⟨g, 9, none⟩ (a9)).setCell ⟨g, 10, none⟩ (a10)).setCell ⟨g, 11, none⟩ (a11)) g 37 #[a0, a1, a2, a3, a4, a5, a6, a7, a8, a9, a10, a11] := by
 have h0 : Blk (w.setCell ⟨g, 0, none⟩ a0) g 37 #[a0, z1, z2, z3, z4, z5, z6, z7, z8, z9, z10, z11] := by
  have := h.set_ 0 a0
  simpa using this
 have h1 : Blk ((w.setCell ⟨g, 0, none⟩ a0).setCell ⟨g, 1, none⟩ a1) g 37 #[a0, a1, z2, z3, z4, z5, z6, z7, z8, z9, z10, z11] := by
  have := h0.set_ 1 a1
  simpa using this
 have h2 : Blk (((w.setCell ⟨g, 0, none⟩ a0).setCell ⟨g, 1, none⟩ a1).setCell ⟨g, 2, none⟩ a2) g 37 #[a0, a1, a2, z3, z4, z5, z6, z7, z8, z9, z10, z11] := by
  have := h1.set_ 2 a2
  simpa using this
 have h3 : Blk ((((w.setCell ⟨g, 0, none⟩ a0).setCell ⟨g, 1, none⟩ a1).setCell ⟨g, 2, none⟩ a2).setCell ⟨g, 3, none⟩ a3) g 37 #[a0, a1, a2, a3, z4, z5, z6, z7, z8, z9, z10, z11] := by
  have := h2.set_ 3 a3
  simpa using this
 have h4 : Blk (((((w.setCell ⟨g, 0, none⟩ a0).setCell ⟨g, 1, none⟩ a1).setCell ⟨g, 2, none⟩ a2).setCell ⟨g, 3, none⟩ a3).setCell ⟨g, 4, none⟩ a4) g 37 #[a0, a1, a2, a3, a4, z5, z6, z7, z8, z9, z10, z11] := by
  have := h3.set_ 4 a4
  simpa using this
 have h5 : Blk ((((((w.setCell ⟨g, 0, none⟩ a0).setCell ⟨g, 1, none⟩ a1).setCell ⟨g, 2, none⟩ a2).setCell ⟨g, 3, none⟩ a3).setCell ⟨g, 4, none⟩ a4).setCell ⟨g, 5, none⟩ a5) g 37 #[a0, a1, a2, a3, a4, a5, z6, z7, z8, z9, z10, z11] := by
  have := h4.set_ 5 a5
  simpa using this
 have h6 : Blk (((((((w.setCell ⟨g, 0, none⟩ a0).setCell ⟨g, 1, none⟩ a1).setCell ⟨g, 2, none⟩ a2).setCell ⟨g, 3, none⟩ a3).setCell ⟨g, 4, none⟩ a4).setCell ⟨g, 5, none⟩ a5).setCell ⟨g, 6, none⟩ a6) g 37 #[a0, a1, a2, a3, a4, a5, a6, z7, z8, z9, z10, z11] := by
  have := h5.set_ 6 a6
  simpa using this
 have h7 : Blk ((((((((w.setCell ⟨g, 0, none⟩ a0).setCell ⟨g, 1, none⟩ a1).setCell ⟨g, 2, none⟩ a2).setCell ⟨g, 3, none⟩ a3).setCell ⟨g, 4, none⟩ a4).setCell ⟨g, 5, none⟩ a5).setCell ⟨g, 6, none⟩ a6).setCell ⟨g, 7, none⟩ a7) g 37 #[a0, a1, a2, a3, a4, a5, a6, a7, z8, z9, z10, z11] := by
  have := h6.set_ 7 a7
  simpa using this
 have h8 : Blk (((((((((w.setCell ⟨g, 0, none⟩ a0).setCell ⟨g, 1, none⟩ a1).setCell ⟨g, 2, none⟩ a2).setCell ⟨g, 3, none⟩ a3).setCell ⟨g, 4, none⟩ a4).setCell ⟨g, 5, none⟩ a5).setCell ⟨g, 6, none⟩ a6).setCell ⟨g, 7, none⟩ a7).setCell ⟨g, 8, none⟩ a8) g 37 #[a0, a1, a2, a3, a4, a5, a6, a7, a8, z9, z10, z11] := by
  have := h7.set_ 8 a8
  simpa using this
 have h9 : Blk ((((((((((w.setCell ⟨g, 0, none⟩ a0).setCell ⟨g, 1, none⟩ a1).setCell ⟨g, 2, none⟩ a2).setCell ⟨g, 3, none⟩ a3).setCell ⟨g, 4, none⟩ a4).setCell ⟨g, 5, none⟩ a5).setCell ⟨g, 6, none⟩ a6).setCell ⟨g, 7, none⟩ a7).setCell ⟨g, 8, none⟩ a8).setCell ⟨g, 9, none⟩ a9) g 37 #[a0, a1, a2, a3, a4, a5, a6, a7, a8, a9, z10, z11] := by
  have := h8.set_ 9 a9
  simpa using this
 have h10 : Blk (((((((((((w.setCell ⟨g, 0, none⟩ a0).setCell ⟨g, 1, none⟩ a1).setCell ⟨g, 2, none⟩ a2).setCell ⟨g, 3, none⟩ a3).setCell ⟨g, 4, none⟩ a4).setCell ⟨g, 5, none⟩ a5).setCell ⟨g, 6, none⟩ a6).setCell ⟨g, 7, none⟩ a7).setCell ⟨g, 8, none⟩ a8).setCell ⟨g, 9, none⟩ a9).setCell ⟨g, 10, none⟩ a10) g 37 #[a0, a1, a2, a3, a4, a5, a6, a7, a8, a9, a10, z11] := by
  have := h9.set_ 10 a10
  simpa using this
 have h11 : Blk ((((((((((((w.setCell ⟨g, 0, none⟩ a0).setCell ⟨g, 1, none⟩ a1).setCell ⟨g, 2, none⟩ a2).setCell ⟨g, 3, none⟩ a3).setCell ⟨g, 4, none⟩ a4).setCell ⟨g, 5, none⟩ a5).setCell ⟨g, 6, none⟩ a6).setCell ⟨g, 7, none⟩ a7).setCell ⟨g, 8, none⟩ a8).setCell ⟨g, 9, none⟩ a9).setCell ⟨g, 10, none⟩ a10).setCell ⟨g, 11, none⟩ a11) g 37 #[a0, a1, a2, a3, a4, a5, a6, a7, a8, a9, a10, a11] := by
  have := h10.set_ 11 a11
  simpa using this
 exact h11
end Go.Proofs.YtdhgiammfpjniaaGreatDoor

namespace Go.Proofs.YtdhgiammfpjniaaGreatDoor
set_option linter.unusedSimpArgs false
set_option linter.unusedVariables false
open Go.RowKit Go.MapKept
theorem anQl {w : World} {base n sz : Nat} {e : TypeId} {v : Value} {xs : List Value} (h : w.ownsRow base e sz v n xs) : w.ownsRow 0 e sz v n xs := by
 refine ⟨h.1, ?_⟩
 rcases h.2 with h2 | ⟨g, cap, cur, h1, _, h3⟩
 ·exact .inl h2
 ·exact .inr ⟨g, cap, cur, h1, Nat.zero_le _, h3⟩
def abQn : Bs → Bs → List Bs
 | [], cur => if cur = [] then [] else [cur]
 | c :: r, cur => if c = 10 then cur :: abQn r [] else abQn r (cur ++ [c])
def aaQm (t : Bs) : List Bs := abQn t []
theorem apQz (c : UInt8) (r : Bs) : Lib.cut (c :: r) [10] = if c = 10 then ([], r, true) else (c :: (Lib.cut r [10]).1, (Lib.cut r [10]).2.1, (Lib.cut r [10]).2.2) := by
 have hi : Lib.index (c :: r) [10] = if c = 10 then 0 else if Lib.index r [10] = -1 then -1 else Lib.index r [10] + 1 := by
  show (if ([10] : Bs).isPrefixOf (c :: r) = true then (0 : Int) else if (Lib.index r [10] == -1) = true then -1 else Lib.index r [10] + 1) = _
  by_cases h : c = 10
  ·subst h
   rw [if_pos rfl]
   rfl
  ·rw [if_neg h]
   have h2 : ([10] : Bs).isPrefixOf (c :: r) = false := by
    show ((10 : UInt8) == c && _) = false
    have : ((10 : UInt8) == c) = false := beq_eq_false_iff_ne.2 (fun e => h e.symm)
    rw [this]
    rfl
   rw [h2]
   simp
 by_cases h : c = 10
 ·subst h
  rw [if_pos rfl] at hi
  rw [if_pos rfl]
  unfold Lib.cut
  rw [hi]
  rfl
 ·rw [if_neg h] at hi ⊢
  have hg := Lib.index_ge r [10]
  unfold Lib.cut
  by_cases h1 : Lib.index r [10] = -1
  ·rw [if_pos h1] at hi
   rw [hi, h1]
   rfl
  ·rw [if_neg h1] at hi
   have h0 : 0 ≤ Lib.index r [10] := by omega
   rw [hi, if_pos h0, if_pos (by omega)]
   obtain ⟨k, hk⟩ : ∃ k : Nat, Lib.index r [10] = (k : Int) := ⟨(Lib.index r [10]).toNat, by omega⟩
   rw [hk]
   have e1 : ((k : Int) + 1).toNat = k + 1 := by omega
   have e2 : ((k : Int)).toNat = k := by omega
   rw [e1, e2]
   simp
theorem aiQh : ∀ (t cur : Bs), t ≠ [] → abQn t cur = (cur ++ (Lib.cut t [10]).1) :: abQn (Lib.cut t [10]).2.1 []
 | [], cur, h => absurd rfl h
 | c :: r, cur, _ => by
   rw [apQz]
   by_cases hc : c = 10
   ·rw [if_pos hc]
    show (if c = 10 then cur :: abQn r [] else _) = (cur ++ []) :: abQn r []
    rw [if_pos hc, List.append_nil]
   ·rw [if_neg hc]
    show (if c = 10 then _ else abQn r (cur ++ [c])) = (cur ++ c :: (Lib.cut r [10]).1) :: abQn (Lib.cut r [10]).2.1 []
    rw [if_neg hc]
    cases r with
    | nil =>
      have e : Lib.cut ([] : Bs) [10] = ([], [], false) := rfl
      rw [e]
      show (if cur ++ [c] = [] then [] else [cur ++ [c]]) = (cur ++ [c]) :: abQn [] []
      rw [if_neg (by simp)]
      rfl
    | cons d r' =>
      rw [aiQh (d :: r') (cur ++ [c]) (by simp), List.append_assoc]
      rfl
theorem afQz {t : Bs} (h : t ≠ []) : aaQm t = (Lib.cut t [10]).1 :: aaQm (Lib.cut t [10]).2.1 := by
 unfold aaQm
 rw [aiQh t [] h, List.nil_append]
end Go.Proofs.YtdhgiammfpjniaaGreatDoor
