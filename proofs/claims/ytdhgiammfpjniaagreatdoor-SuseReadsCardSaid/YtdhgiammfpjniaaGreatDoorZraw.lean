/- Parts of the proof. -/
import Derived.Test.YtdhgiammfpjniaaGreatDoorZrav
import Derived.Test.YtdhgiammfpjniaaGreatDoorZrao
import Derived.Lib.RuneCount
import Derived.Laws.RangeAny
namespace Go.Proofs.YtdhgiammfpjniaaGreatDoor.Ev
set_option linter.unusedSimpArgs false
set_option linter.unusedVariables false
open Go.RowKit
def okD (i : Nat) (d : Dep) : Bool := decide (checkN d = 0 ∧ ((i = 0 ∨ i = 4) → d.kind = 1) ∧ (i = 0 → d.op = 0 ∨ d.op = 2))
def okL (p : Pkg) (i : Nat) : Bool := decide ((p.ls i).length ≤ 16) && (p.ls i).all (okD i)
def depsB (p : Pkg) : Bool := (List.range 7).all (okL p)
theorem row7 (ss : Nat → Value) : ∀ k, k < 7 → (#[ss 0, ss 1, ss 2, ss 3, ss 4, ss 5, ss 6] : Array Value)[k]? = some (ss k)
 | 0, _ => rfl
 | 1, _ => rfl
 | 2, _ => rfl
 | 3, _ => rfl
 | 4, _ => rfl
 | 5, _ => rfl
 | 6, _ => rfl
 | _ + 7, h => absurd h (by omega)
theorem ne_cs (a b : Int) : (a = b ∧ (a != b) = false ∧ (a == b) = true) ∨ (a ≠ b ∧ (a != b) = true ∧ (a == b) = false) := by
 by_cases h : a = b
 ·exact .inl ⟨h, by simp [h], by simp [h]⟩
 ·exact .inr ⟨h, bne_iff_ne.2 h, beq_eq_false_iff_ne.2 h⟩
set_option maxHeartbeats 8000000 in
set_option maxRecDepth 100000 in
theorem amQp (p : Pkg) (ss : Nat → Value) (fs : Value) (S T : Nat → Prop) (w0 : World) (hP : PkgAt w0 S T p ss fs) (hsm : ∀ i, i < 7 → ∀ d ∈ p.ls i, small d ∧ nodes d ≤ 4194304) :
 Calls Tryz.prog 116 #[.agg (rowP p ss fs)] w0 fun e w' => e = .returned (.bool (depsB p)) ∧ Below w0.heap.size w0 w' := by
 obtain ⟨y, hy⟩ : ∃ y, y = depsB p := ⟨_, rfl⟩
 rw [← hy]
 have HNo : Hid (∀ i, i < 7 → okL p i = false → y = false) := fun i hi h => by
  rw [hy]
  cases hx : depsB p with
  | false => rfl
  | true =>
    have := List.all_eq_true.1 hx i (List.mem_range.2 hi)
    rw [h] at this; cases this
 have HYes : Hid ((∀ i, i < 7 → okL p i = true) → y = true) := fun h => by
  rw [hy]
  exact List.all_eq_true.2 fun i hi => h i (List.mem_range.1 hi)
 obtain ⟨w1, hw1⟩ : ∃ w1, w1 = w0.alloc (.cells (rowP p ss fs) 37) := ⟨_, rfl⟩
 have hb0 : Below w0.heap.size w0 w1 := by rw [hw1]; exact (Below.refl _ _).alloc (Nat.le_refl _) _
 have K0 : Blk w1 w0.heap.size 37 (rowP p ss fs) := by rw [hw1]; exact Blk.new _ _ _
 have hSL : ∀ i, i < 7 → ∃ B n m, ss i = .slice B n m := fun i hi => by
  obtain ⟨B, m, h, _⟩ := hP.lists i hi
  exact ⟨B, _, m, h⟩
 have CL := hQQ (aiQ3 p ss fs hSL w1)
 have HF : Hid (∀ wx, Below w1.heap.size w1 wx → PkgAt wx S T p ss fs ∧ Below w0.heap.size w0 wx) := fun wx hb => by
  have h1 := hb0.trans (hb.mono hb0.size)
  exact ⟨hP.below h1, h1⟩
 have HSM := hQQ hsm
 have HSL := hQQ hSL
 have q0 := K0.cell 0
 have q1 := K0.cell 1
 have q2 := K0.cell 2
 have q3 := K0.cell 3
 have q4 := K0.cell 4
 have q5 := K0.cell 5
 have q6 := K0.cell 6
 have q7 := K0.cell 7
 have q8 := K0.cell 8
 have q9 := K0.cell 9
 have q10 := K0.cell 10
 have q11 := K0.cell 11
 unfold rowP at CL q0 q1 q2 q3 q4 q5 q6 q7 q8 q9 q10 q11
 simp at q0 q1 q2 q3 q4 q5 q6 q7 q8 q9 q10 q11
 clear hP hsm hy hb0 K0 hSL
 unfold rowP at hw1
 unfold rowP
 go_enter Tryz.func116, Tryz.ntmps116
 go_upto_region 1 with fail
 rw [← hw1]
 clear hw1
 go_wp2_with fail
 refine CL.out.mono ?_
 rintro e w2 ⟨bl, rfl, hbl, hb2⟩
 have HW2 : Hid (∀ wx, Below w2.heap.size w2 wx → Blk wx bl 35 #[ss 0, ss 1, ss 2, ss 3, ss 4, ss 5, ss 6] ∧ PkgAt wx S T p ss fs ∧ Below w0.heap.size w0 wx) := fun wx hb => by
  obtain ⟨h1, h2⟩ := HF.out wx (hb2.trans (hb.mono hb2.size))
  exact ⟨hbl.below hb hbl.lt, h1, h2⟩
 clear hb2 hbl CL HF q0 q1 q2 q3 q4 q5 q6 q7 q8 q9 q10 q11
 go_wp2_with fail
 go_loopw [4] (fun v wx => ∃ k : Nat, k ≤ 7 ∧ v = .int .i64 (k : Int) ∧ Hid (∀ i, i < k → okL p i = true) ∧ Hid (Below w2.heap.size w2 wx)) (fun v _ => 7 - (intOf v).toNat)
 case atStart => exact ⟨0, by omega, rfl, (show ∀ i, i < 0 → okL p i = true from fun i hi => by omega), (show Below w2.heap.size w2 w2 from Below.refl _ _)⟩
 case round =>
  obtain ⟨k, hk, rfl, hok, hb⟩ := hrel
  by_cases hlt : k < 7
  ·obtain ⟨Kr, hPr, hBr⟩ := HW2.out wr hb.out
   have hc := (Kr.cell k).trans (row7 ss k hlt)
   obtain ⟨A, c, hs, hl1, hl2, hl3, hA⟩ := hPr.lists k hlt
   rw [hs] at hc
   have HBr := hQQ hBr
   clear Kr hPr hBr hl3 hA
   unfold maxLen at hl2
   have hN1 := HNo.out k hlt
   by_cases h16 : 16 < (p.ls k).length
   ·have t16 : (16 : Int) < ((p.ls k).length : Int) := by omega
    have HV : Hid (y = false) := hN1 (by unfold okL; rw [decide_eq_false (by omega)]; rfl)
    clear h16 hN1
    go_wp2_with fail
    go_ret
    exact ⟨aaQj (by rw [HV.out]), HBr.out⟩
   have t16 : ¬ (16 : Int) < ((p.ls k).length : Int) := by omega
   have HN1 : Hid ((p.ls k).all (okD k) = false → y = false) := fun h => hN1 (by unfold okL; rw [h]; simp)
   have HY1 : Hid ((p.ls k).all (okD k) = true → okL p k = true) := fun h => by unfold okL; rw [h, decide_eq_true (by omega)]; rfl
   have hlb : (p.ls k).length ≤ 16 := by omega
   clear h16 hN1 HBr
   have HS := hQQ hs
   clear hs
   go_wp2_with fail
   go_loopw [5] (fun v wx => ∃ j : Nat, j ≤ (p.ls k).length ∧ v = .int .i64 (j : Int) ∧ Hid (((p.ls k).take j).all (okD k) = true) ∧ Hid (Below w2.heap.size w2 wx)) (fun v _ => (p.ls k).length - (intOf v).toNat)
   case atStart => exact ⟨0, Nat.zero_le _, rfl, rfl, hb⟩
   case round =>
    clear hb hc
    obtain ⟨j, hj, rfl, hall, hbj⟩ := hrel
    obtain ⟨Kr, hPr, hBr⟩ := HW2.out wr hbj.out
    have hc := (Kr.cell k).trans (row7 ss k hlt)
    obtain ⟨A', c', hs', -, -, -, hA⟩ := hPr.lists k hlt
    rw [HS.out] at hs' hc
    injection hs' with g1 g2 g3
    subst g1; subst g3
    have HBr := hQQ hBr
    clear Kr hPr hBr g2
    by_cases hltj : j < (p.ls k).length
    ·obtain ⟨a, ha⟩ : ∃ a, (p.ls k)[j]? = some a := ⟨_, List.getElem?_eq_getElem hltj⟩
     have hm := List.mem_of_getElem? ha
     obtain ⟨hs1, hs2⟩ := HSM.out k hlt a hm
     have HD1 : Hid (¬ (checkN a = 0 ∧ ((k = 0 ∨ k = 4) → a.kind = 1) ∧ (k = 0 → a.op = 0 ∨ a.op = 2)) → y = false) := fun h => HN1.out (by
      replace h : okD k a = false := decide_eq_false h
      cases hx : (p.ls k).all (okD k) with
      | false => rfl
      | true => have := List.all_eq_true.1 hx a hm; rw [h] at this; cases this)
     have HD2 : Hid ((checkN a = 0 ∧ ((k = 0 ∨ k = 4) → a.kind = 1) ∧ (k = 0 → a.op = 0 ∨ a.op = 2)) → ((p.ls k).take (j + 1)).all (okD k) = true) := fun h => by
      replace h : okD k a = true := decide_eq_true h
      rw [List.take_add_one, ha, List.all_append, hall.out]; simp [h]
     obtain ⟨b', o', t, hA', hSb, hC, hLa⟩ := hA j a ha
     obtain ⟨At, ct, rfl, _, _⟩ := hLa.form_
     subst hA'
     obtain ⟨e0, e1, e2, e3, e4⟩ := hC
     obtain ⟨wA, hwA⟩ : ∃ wA, wA = wr.alloc (.cells (rowD a (.slice At a.args.length ct)) 39) := ⟨_, rfl⟩
     have KA : Blk wA wr.heap.size 39 (rowD a (.slice At a.args.length ct)) := by rw [hwA]; exact Blk.new _ _ _
     have hbr : Below wr.heap.size wr wA := by rw [hwA]; exact (Below.refl _ _).alloc (Nat.le_refl _) _
     have CC := hQQ (aeQ1 a _ S wA (hLa.stay (fun _ h => h) (StayS.below' hbr)) hs1 hs2)
     have HW : Hid (∀ wx, Below wA.heap.size wA wx → wx.cell? ⟨wr.heap.size, 0, none⟩ = some (.int .i64 a.kind) ∧ wx.cell? ⟨wr.heap.size, 2, none⟩ = some (.int .i64 a.op) ∧ Below w2.heap.size w2 wx ∧ Below w0.heap.size w0 wx) := fun wx hbx => by
      have KX := KA.below hbx KA.lt
      have hx := hbj.out.trans ((hbr.trans (hbx.mono hbr.size)).mono hbj.out.size)
      exact ⟨KX.cell 0, KX.cell 2, hx, (HW2.out wx hx).2.2⟩
     have q0 := KA.cell 0
     have q1 := KA.cell 1
     have q2 := KA.cell 2
     have q3 := KA.cell 3
     have q4 := KA.cell 4
     unfold rowD at q0 q1 q2 q3 q4 hwA CC
     simp at q0 q1 q2 q3 q4
     clear KA hbr hLa ha hm hs1 hs2 hall HSM hSb hA hbj HBr
     go_upto_region 11 with fail
     rw [← hwA]
     clear e0 e1 e2 e3 e4 hc hwA
     go_wp2_with fail
     refine CC.out.mono ?_
     rintro e w3 ⟨rfl, hb3⟩
     obtain ⟨u0, u2, hx2, hx0⟩ := HW.out w3 hb3
     have HX2 := hQQ hx2
     have HX0 := hQQ hx0
     clear hb3 hx2 hx0 CC HW q0 q1 q2 q3 q4
     generalize checkN a = n at *
     generalize a.kind = K at *
     generalize a.op = o at *
     rcases ne_cs n 0 with ⟨h1, t1, s1⟩ | ⟨h1, t1, s1⟩
     ·rcases ne_cs (k : Int) 0 with ⟨h2, t2, s2⟩ | ⟨h2, t2, s2⟩
      ·rcases ne_cs K 1 with ⟨h4, t4, s4⟩ | ⟨h4, t4, s4⟩
       ·rcases ne_cs o 0 with ⟨h5, t5, s5⟩ | ⟨h5, t5, s5⟩
        ·have HV := hQQ (HD2.out (by omega))
         clear HD1 HD2
         try clear h1
         try clear h2
         try clear h3
         try clear h4
         try clear h5
         try clear h6
         go_wp2_with fail
         go_roundw
         case rel => exact ⟨j + 1, by omega, by go_num, HV, HX2⟩
         case measure => simp [intOf]; omega
        ·rcases ne_cs o 2 with ⟨h6, t6, s6⟩ | ⟨h6, t6, s6⟩
         ·have HV := hQQ (HD2.out (by omega))
          clear HD1 HD2
          try clear h1
          try clear h2
          try clear h3
          try clear h4
          try clear h5
          try clear h6
          go_wp2_with fail
          go_roundw
          case rel => exact ⟨j + 1, by omega, by go_num, HV, HX2⟩
          case measure => simp [intOf]; omega
         ·have HV : Hid (y = false) := HD1.out (by omega)
          clear HD1 HD2
          try clear h1
          try clear h2
          try clear h3
          try clear h4
          try clear h5
          try clear h6
          go_wp2_with fail
          go_ret
          exact ⟨aaQj (by rw [HV.out]), HX0.out⟩
       ·have HV : Hid (y = false) := HD1.out (by omega)
        clear HD1 HD2
        try clear h1
        try clear h2
        try clear h3
        try clear h4
        try clear h5
        try clear h6
        go_wp2_with fail
        go_ret
        exact ⟨aaQj (by rw [HV.out]), HX0.out⟩
      ·rcases ne_cs (k : Int) 4 with ⟨h3, t3, s3⟩ | ⟨h3, t3, s3⟩
       ·rcases ne_cs K 1 with ⟨h4, t4, s4⟩ | ⟨h4, t4, s4⟩
        ·have HV := hQQ (HD2.out (by omega))
         clear HD1 HD2
         try clear h1
         try clear h2
         try clear h3
         try clear h4
         try clear h5
         try clear h6
         go_wp2_with fail
         go_roundw
         case rel => exact ⟨j + 1, by omega, by go_num, HV, HX2⟩
         case measure => simp [intOf]; omega
        ·have HV : Hid (y = false) := HD1.out (by omega)
         clear HD1 HD2
         try clear h1
         try clear h2
         try clear h3
         try clear h4
         try clear h5
         try clear h6
         go_wp2_with fail
         go_ret
         exact ⟨aaQj (by rw [HV.out]), HX0.out⟩
       ·have HV := hQQ (HD2.out (by omega))
        clear HD1 HD2
        try clear h1
        try clear h2
        try clear h3
        try clear h4
        try clear h5
        try clear h6
        go_wp2_with fail
        go_roundw
        case rel => exact ⟨j + 1, by omega, by go_num, HV, HX2⟩
        case measure => simp [intOf]; omega
     ·have HV : Hid (y = false) := HD1.out (by omega)
      clear HD1 HD2
      try clear h1
      try clear h2
      try clear h3
      try clear h4
      try clear h5
      try clear h6
      go_wp2_with fail
      go_ret
      exact ⟨aaQj (by rw [HV.out]), HX0.out⟩
    ·have HV : Hid (∀ i, i < k + 1 → okL p i = true) := fun i hi => by
      rcases Nat.lt_or_ge i k with h | h
      ·exact hok.out i h
      ·obtain rfl : i = k := by omega
       have := hall.out
       rw [List.take_of_length_le (by omega)] at this
       exact HY1.out this
     clear hall hA hok
     go_wp2_with fail
     go_roundw
     case rel => exact ⟨k + 1, by omega, by go_num, HV, hbj⟩
     case measure => simp [intOf]; omega
  ·obtain rfl : k = 7 := by omega
   have HV : Hid (y = true) := HYes.out hok.out
   have hBr := (HW2.out wr hb.out).2.2
   have HBr := hQQ hBr
   clear hlt hBr
   go_wp2_with fail
   go_ret
   exact ⟨aaQj (by rw [HV.out]), HBr.out⟩
def adQy (s : ByteArray) : Bool := aeQn s && decide (s.size ≤ 60)
def headR (p : Pkg) : Int := if nameB p.name.data.toList = false then 60 else if evrB p.evr.data.toList = false then 61 else if archR p.arch = false then 62 else if adQy p.vendor = false then 63 else 0
def chkR (p : Pkg) : Int := if headR p ≠ 0 then headR p else if depsB p = false then 64 else if filesBad p.files = true then 65 else 0
structure RefSmall (p : Pkg) : Prop where
 name : p.name.size ≤ maxLen
 evr : p.evr.size ≤ maxLen
 arch : p.arch.size ≤ maxLen
 vendor : p.vendor.size ≤ maxLen
 files : ∀ s ∈ p.files, s.size ≤ maxLen
 deps : ∀ i, i < 7 → ∀ d ∈ p.ls i, small d ∧ nodes d ≤ 4194304
set_option maxHeartbeats 8000000 in
set_option maxRecDepth 100000 in
theorem refCheckP_any (p : Pkg) (ss : Nat → Value) (fs : Value) (S T : Nat → Prop) (w0 : World) (hP : PkgAt w0 S T p ss fs) (hsm : RefSmall p) :
 Calls Tryz.prog 53 #[.agg (rowP p ss fs)] w0 fun e w' => e = .returned (.int .i64 (chkR p)) ∧ Below w0.heap.size w0 w' := by
 obtain ⟨y, hy⟩ : ∃ y, y = chkR p := ⟨_, rfl⟩
 rw [← hy]
 have HY := hQQ hy
 clear hy
 obtain ⟨w1, hw1⟩ : ∃ w1, w1 = w0.alloc (.cells (rowP p ss fs) 37) := ⟨_, rfl⟩
 have hb0 : Below w0.heap.size w0 w1 := by rw [hw1]; exact (Below.refl _ _).alloc (Nat.le_refl _) _
 have K0 : Blk w1 w0.heap.size 37 (rowP p ss fs) := by rw [hw1]; exact Blk.new _ _ _
 have CN := hQQ (acQ4 p.name hsm.name w1)
 have CE := hQQ (afQ7 p.evr hsm.evr w1)
 have HF : Hid (∀ wx, Below w1.heap.size w1 wx → Blk wx w0.heap.size 37 (rowP p ss fs) ∧ PkgAt wx S T p ss fs ∧ Below w0.heap.size w0 wx) := fun wx hb => by
  have h1 := hb0.trans (hb.mono hb0.size)
  exact ⟨K0.below hb K0.lt, hP.below h1, h1⟩
 have HSM := hQQ hsm
 unfold PPost at CE
 obtain ⟨ea, eb, ec, hev⟩ := ajQi (parse p.evr.data.toList)
 rw [hev] at CE
 have hee := amQ3 p.evr.data.toList
 obtain ⟨n, hn⟩ : ∃ n, n = errV (parse p.evr.data.toList) := ⟨_, rfl⟩
 rw [← hn] at CE hee
 have HEE := hQQ hee
 obtain ⟨A, c, rfl, hl1, hl2, hl3, hA⟩ := hP.files
 have k0 := K0.cell 0
 have k1 := K0.cell 1
 unfold rowP at k0 k1
 simp at k0 k1
 have HB0 := hQQ hb0
 clear hb0 K0 hP hsm hev hee hn hl1 hl2 hl3 hA
 unfold rowP at hw1 ⊢
 cases hname : nameB p.name.data.toList with
 | false =>
   have HV : Hid (y = 60) := by show y = _; rw [HY.out]; unfold chkR headR; simp [hname]
   rw [hname] at CN
   clear hname HY CE HEE HF HSM k1
   go_enter Tryz.func53, Tryz.ntmps53
   go_upto_region 1 with fail
   rw [← hw1]
   clear hw1
   go_wp2_with fail
   refine CN.out.mono ?_
   rintro e w2 ⟨rfl, rfl⟩
   go_wp2_with fail
   go_ret
   exact ⟨by rw [HV.out]; rfl, HB0.out⟩
 | true =>
 rw [hname] at CN
 have HN := hQQ hname
 clear hname
 go_enter Tryz.func53, Tryz.ntmps53
 go_upto_region 1 with fail
 rw [← hw1]
 clear hw1
 go_wp2_with fail
 refine CN.out.mono ?_
 rintro e w1x ⟨rfl, rfl⟩
 clear CN HB0
 go_wp2_with fail
 refine CE.out.mono ?_
 rintro e w2 ⟨rfl, hb2⟩
 clear CE k0 k1
 have hb3 : Below w1.heap.size w1 (w2.alloc (.cells #[.string ea, .string eb, .string ec] 101)) := hb2.alloc hb2.size _
 obtain ⟨w3, hw3⟩ : ∃ w3, w3 = w2.alloc (.cells #[.string ea, .string eb, .string ec] 101) := ⟨_, rfl⟩
 rw [← hw3] at hb3
 obtain ⟨K3, hP3, hB3⟩ := HF.out _ hb3
 have HB3 := hQQ hb3
 have HB3w := hQQ hB3
 clear hb2 hb3 hB3
 go_upto_region 5 with fail
 rw [← hw3]
 clear hw3
 cases hevr : evrB p.evr.data.toList with
 | false =>
   have hne : (n == 0) = false := by rw [HEE.out, hevr]
   have hne' : (n != 0) = true := by simpa using hne
   have HV : Hid (y = 61) := by show y = _; rw [HY.out]; unfold chkR headR; simp [HN.out, hevr]
   clear hevr K3 hP3
   go_wp2_with fail
   go_ret
   exact ⟨by rw [HV.out]; rfl, HB3w.out⟩
 | true =>
 have hne : (n == 0) = true := by rw [HEE.out, hevr]
 have hne' : (n != 0) = false := by simpa using hne
 have k2 := K3.cell 2
 have k3 := K3.cell 3
 unfold rowP at k2 k3
 simp at k2 k3
 have CA := hQQ (amQq p.arch HSM.out.arch w3)
 have CV := hQQ (akQg p.vendor HSM.out.vendor w3)
 have HE := hQQ hevr
 clear hevr
 cases harch : archR p.arch with
 | false =>
   have HV : Hid (y = 62) := by show y = _; rw [HY.out]; unfold chkR headR; simp [HN.out, HE.out, harch]
   rw [harch] at CA
   clear harch K3 hP3 CV
   go_wp2_with fail
   refine CA.out.mono ?_
   rintro e w4 ⟨rfl, rfl⟩
   go_wp2_with fail
   go_ret
   exact ⟨by rw [HV.out]; rfl, HB3w.out⟩
 | true =>
 rw [harch] at CA
 have HA := hQQ harch
 clear harch
 have hvs := HSM.out.vendor
 unfold maxLen at hvs
 by_cases hven : adQy p.vendor = false
 ·have HV : Hid (y = 63) := by show y = _; rw [HY.out]; unfold chkR headR; simp [HN.out, HE.out, HA.out, hven]
  have hcs : aeQn p.vendor = false ∨ (aeQn p.vendor = true ∧ 60 < p.vendor.size) := by
   unfold adQy at hven
   cases hsh : aeQn p.vendor with
   | false => exact .inl rfl
   | true => rw [hsh] at hven; exact .inr ⟨rfl, by simpa using hven⟩
  clear hven K3 hP3
  rcases hcs with h1 | ⟨h1, h2⟩
  ·rw [h1] at CV
   clear h1
   go_wp2_with fail
   refine CA.out.mono ?_
   rintro e w4 ⟨rfl, rfl⟩
   go_wp2_with fail
   refine CV.out.mono ?_
   rintro e w4 ⟨rfl, rfl⟩
   go_wp2_with fail
   go_ret
   exact ⟨by rw [HV.out]; rfl, HB3w.out⟩
  ·have t60 : (60 : Int) < (p.vendor.size : Int) := by omega
   rw [h1] at CV
   clear h1
   go_wp2_with fail
   refine CA.out.mono ?_
   rintro e w4 ⟨rfl, rfl⟩
   go_wp2_with fail
   refine CV.out.mono ?_
   rintro e w4 ⟨rfl, rfl⟩
   go_wp2_with fail
   go_ret
   exact ⟨by rw [HV.out]; rfl, HB3w.out⟩
 have hven : adQy p.vendor = true := by simpa using hven
 have h1 : aeQn p.vendor = true := by unfold adQy at hven; simp at hven; exact hven.1
 have h2 : p.vendor.size ≤ 60 := by unfold adQy at hven; simp at hven; exact hven.2
 have t60 : ¬ (60 : Int) < (p.vendor.size : Int) := by omega
 rw [h1] at CV
 have H0 : Hid (headR p = 0) := by
  show headR p = 0
  unfold headR
  simp [HN.out, HE.out, HA.out, hven]
 have CD := hQQ (amQp p ss (.slice A p.files.length c) S T w3 hP3 HSM.out.deps)
 have q4 := K3.cell 4
 have q5 := K3.cell 5
 have q6 := K3.cell 6
 have q7 := K3.cell 7
 have q8 := K3.cell 8
 have q9 := K3.cell 9
 have q10 := K3.cell 10
 have q11 := K3.cell 11
 have q0 := K3.cell 0
 have q1 := K3.cell 1
 unfold rowP at CD q0 q1 q4 q5 q6 q7 q8 q9 q10 q11
 simp at q0 q1 q4 q5 q6 q7 q8 q9 q10 q11
 have HSS : Hid (∀ i, i < 7 → ∃ B m, ss i = .slice B (p.ls i).length m) := fun i hi => by
  obtain ⟨B, m, h, _⟩ := hP3.lists i hi
  exact ⟨B, m, h⟩
 clear h1 h2 hven K3 hP3
 obtain ⟨B0, m0, s0⟩ := HSS.out 0 (by omega)
 obtain ⟨B1, m1, s1⟩ := HSS.out 1 (by omega)
 obtain ⟨B2, m2, s2⟩ := HSS.out 2 (by omega)
 obtain ⟨B3, m3, s3⟩ := HSS.out 3 (by omega)
 obtain ⟨B4, m4, s4⟩ := HSS.out 4 (by omega)
 obtain ⟨B5, m5, s5⟩ := HSS.out 5 (by omega)
 obtain ⟨B6, m6, s6⟩ := HSS.out 6 (by omega)
 rw [s0, s1, s2, s3, s4, s5, s6] at CD
 rw [s0] at q4
 rw [s1] at q5
 rw [s2] at q6
 rw [s3] at q7
 rw [s4] at q8
 rw [s5] at q9
 rw [s6] at q10
 clear s0 s1 s2 s3 s4 s5 s6 HSS
 go_wp2_with fail
 refine CA.out.mono ?_
 rintro e w4 ⟨rfl, rfl⟩
 go_wp2_with fail
 refine CV.out.mono ?_
 rintro e w4 ⟨rfl, rfl⟩
 clear CA CV
 go_wp2_with fail
 refine CD.out.mono ?_
 rintro e w7 ⟨rfl, hb7⟩
 have HB7 : Hid (Below w1.heap.size w1 w7) := HB3.out.trans (hb7.mono HB3.out.size)
 clear hb7 CD HB3 HB3w q0 q1 k2 k3 q4 q5 q6 q7 q8 q9 q10 q11
 obtain ⟨K7, hP7, hB7⟩ := HF.out _ HB7.out
 have HB7w := hQQ hB7
 cases hd : depsB p with
 | false =>
   have HV : Hid (y = 64) := by show y = _; rw [HY.out]; unfold chkR; simp [H0.out, hd]
   clear hd K7 hP7 hB7
   go_wp2_with fail
   go_ret
   exact ⟨by rw [HV.out]; rfl, HB7w.out⟩
 | true =>
 have r11 := K7.cell 11
 unfold rowP at r11
 simp at r11
 obtain ⟨Af, cf, hfe, hf1, hf2, hf3, hfA⟩ := hP7.files
 injection hfe with e1 e2 e3
 subst e1; subst e3
 have CF := hQQ (akQn p.files A c T w7 hfA hf1 hf2 HSM.out.files)
 have HV : Hid (y = if filesBad p.files = true then 65 else 0) := by show y = _; rw [HY.out]; unfold chkR; simp [H0.out, hd]
 clear hd K7 hP7 hB7 hfA e2 hf1 hf2 hf3
 generalize filesBad p.files = bad at *
 go_wp2_with fail
 refine CF.out.mono ?_
 rintro e w8 ⟨rfl, rfl⟩
 cases bad <;>
 ·go_wp2_with fail
  go_ret
  exact ⟨by rw [HV.out]; rfl, HB7w.out⟩
theorem aeQ8 (p : Nat → Bool) (hp : ∀ r, 128 ≤ r → p r = true) (s : ByteArray) : ∀ (f pos : Nat), s.size ≤ pos + f → decide (0 ≤ Lib.idxFuncFrom p true s f pos) = (s.data.toList.drop pos).any fun b => p b.toNat
 | 0, pos, h => by
   rw [List.drop_eq_nil_of_le (by rw [aaQd]; omega)]
   rfl
 | f + 1, pos, h => by
   unfold Lib.idxFuncFrom
   by_cases hps : pos < s.size
   ·rw [if_pos hps]
    have hl : pos < s.data.toList.length := by rw [aaQd]; exact hps
    have hb : s.data.toList[pos]'hl = s[pos]'hps := by
     have := aaQw hps
     rw [List.getElem?_eq_getElem hl] at this
     exact Option.some.inj this
    rw [List.drop_eq_getElem_cons hl, List.any_cons, hb]
    by_cases ha : (s[pos]'hps).toNat < 128
    ·rw [decode_ascii s pos hps ha]
     by_cases hpb : p (s[pos]'hps).toNat = true
     ·rw [if_pos hpb, hpb]
      simp
     ·rw [if_neg hpb, aeQ8 p hp s f (pos + 1) (by omega)]
      simp only [Bool.not_eq_true] at hpb
      rw [hpb]; rfl
    ·rw [if_pos (hp _ (Go.decode_high s pos hps (by omega)).1), hp _ (by omega : 128 ≤ (s[pos]'hps).toNat)]
     simp
   ·rw [if_neg hps, List.drop_eq_nil_of_le (by rw [aaQd]; omega)]
    rfl
theorem aeQ7 (p : Nat → Bool) (hp : ∀ r, 128 ≤ r → p r = true) (s : ByteArray) : hasRune p s = s.data.toList.any fun b => p b.toNat := by
 unfold hasRune Lib.idxFunc
 rw [aeQ8 p hp s s.size 0 (by omega)]
 rfl
theorem anQa {p q : UInt8 → Bool} (h : ∀ c, p c = !q c) : ∀ l : List UInt8, l.all p = !l.any q
 | [] => rfl
 | c :: r => by rw [List.all_cons, List.any_cons, h, anQa h r, Bool.not_or]
theorem arQ0 (s : ByteArray) : archR s = archB s := by
 have h1 : s.data.toList.all afQ0 = !hasRune abQp s := by
  rw [aeQ7 abQp (fun r hr => by unfold abQp; simp; omega)]
  refine anQa (fun c => ?_) _
  rw [Bool.eq_iff_iff]
  unfold afQ0 abQp
  simp
  omega
 unfold archR archB
 rw [h1, Bool.and_comm]
 congr 2
 rw [decide_eq_decide]
 omega
theorem alQ1 (s : ByteArray) : adQy s = adQz s := by
 have h1 : aeQn s = !hasRune aaQ9 s := by
  rw [aeQ7 aaQ9 (fun r hr => by unfold aaQ9; simp; omega)]
  refine anQa (fun c => ?_) _
  rw [Bool.eq_iff_iff]
  unfold aeQ6 aaQ9
  simp
 unfold adQy adQz
 rw [h1, Bool.and_comm]
theorem arQl (p : Pkg) : depsB p = (Go.Proofs.YtdhgiammfpjniaaGreatDoor.okD p && offersOk p) := by
 rw [Bool.eq_iff_iff, Bool.and_eq_true, amQu]
 unfold depsB okL okD offersOk
 simp only [List.all_eq_true, List.mem_range, Bool.and_eq_true, decide_eq_true_eq, Bool.not_eq_true', List.any_eq_false]
 constructor
 ·intro h
  refine ⟨fun i hi => ⟨(h i hi).1, fun d hd => ((h i hi).2 d hd).1⟩, fun d hd => ?_, fun d hd => ?_⟩
  ·have := ((h 0 (by omega)).2 d hd).2
   unfold adQ6
   have h1 := this.1 (.inl rfl)
   have h2 := this.2 rfl
   simp [h1]
   omega
  ·have := ((h 4 (by omega)).2 d hd).2.1 (.inr rfl)
   simp [this]
 ·rintro ⟨h1, h2, h3⟩ i hi
  refine ⟨(h1 i hi).1, fun d hd => ⟨(h1 i hi).2 d hd, fun h => ?_, fun h => ?_⟩⟩
  ·rcases h with rfl | rfl
   ·have := h2 d hd
    unfold adQ6 at this
    simp at this
    exact this.1
   ·have := h3 d hd
    simpa using this
  ·subst h
   have := h2 d hd
   unfold adQ6 at this
   simp at this
   omega
theorem chk_same (p : Pkg) : chkR p = chkD p := by
 have h1 : headR p = headN p := by
  unfold headR headN
  rw [arQ0, alQ1]
 unfold chkR chkD chkN
 rw [h1, arQl]
end Go.Proofs.YtdhgiammfpjniaaGreatDoor.Ev
