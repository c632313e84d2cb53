/- Parts of the proof. -/
import Derived.Test.YtdhgiammfpjniaaGreatDoorZrbu
import Derived.Test.YtdhgiammfpjniaaGreatDoorZran
namespace Go.Proofs.YtdhgiammfpjniaaGreatDoor
set_option linter.unusedSimpArgs false
set_option linter.unusedVariables false
open Go.RowKit Go.MapKept
set_option maxHeartbeats 16000000 in
set_option maxRecDepth 1000000 in
theorem aoQi (w0 w1 : World) (g : Nat) (t : Bs) (ht : t.length ≤ 40000) (hT : Ev.Tabs w0) (hM : MaxAt w0) (hD : afQk) (h : AllM w0 w1 w0.heap.size g t (.slice none 0 0) []) :
 Calls Tryz.prog 35 #[.pointer (some ⟨g, 0, none⟩)] w1 (ReadR w0 g (readS ((aaQm t).length + 1) (aaQm t) [])) := by
 have CM := hQQ (akQ1 w1)
 have HA0 := hQQ h
 have HT := hQQ hT
 have HMX := hQQ hM
 have HDP := hQQ hD
 have HL0 := hQQ ht
 obtain ⟨X, hX⟩ : ∃ X, X = readS ((aaQm t).length + 1) (aaQm t) [] := ⟨_, rfl⟩
 rw [← hX]
 have HX0 : Hid (readS ((aaQm t).length + 1) (aaQm t) [] = X) := hX.symm
 clear hX h hT hM hD ht
 go_enter Tryz.func35, Tryz.ntmps35
 go_wp2_with fail
 refine aoQd (fun l n a w => ∃ m, JQ w0 g m X l n a w) rfl rfl ?hJ ?p0 ?p1 ?first
 case hJ =>
  rintro l n a w ⟨m, r, acc, k, v7, -, -, -, -, ⟨rfl, -⟩ | ⟨rfl, -⟩⟩ <;> omega
 case first =>
  intro H
  have HH := hQQ H
  clear H
  go_wp2_with fail
  refine CM.out.mono ?_
  rintro e w2 ⟨m, rfl, hm1, hm2, hb⟩
  have HMM : Hid (MeanM w2 w0.heap.size m) := hm2.weak HA0.out.le.2
  have HA2 := hQQ (HA0.out.below hb)
  clear hm2 hb CM
  go_wp2_with fail
  go_step3
  rename_i K hK
  exact hK _ _ (HH.out _ _ _ ⟨m, t, [], _, _, HL0.out, ⟨HMM.out, .inl ⟨rfl, HA2.out⟩⟩, ⟨_, rfl, rfl, rfl, rfl, rfl⟩, Nat.lt_succ_self _, .inl ⟨rfl, rfl, HX0.out⟩⟩)
 case p1 =>
  rintro n a w ⟨m, r, acc, k, v7, hr, hA, hsl, hk, hor⟩
  obtain ⟨U, rfl⟩ := hsl.lit
  obtain ⟨hn, v, rfl, hv, hres⟩ : n = 2 * r.length + 2 ∧ ∃ v : Bs, v7 = .string (mkS v) ∧ v.length ≤ 40000 ∧ (match abQk acc v with
   | .error e => .error e
   | .ok a => readS k (aaQm r) a) = X := by
   rcases hor with ⟨h0, -⟩ | ⟨-, h1, h2⟩
   ·cases h0
   ·exact ⟨h1, h2⟩
  clear hor
  obtain ⟨Aa, ca, xs, hAll, hxs⟩ := hA.all
  have CB := hQQ (arQz hAll hxs (hA.whole HT.out) v hv)
  have HA := hQQ hA
  clear hA hAll
  cases hbg : abQk acc v with
  | error e =>
    rw [hbg] at CB hres
    have HE : Hid (X = .error e) := hres.symm
    clear hres hbg
    go_wp2_with fail
    refine CB.out.mono ?_
    rintro en w2 ⟨rfl, hne, hb⟩
    have HB := hQQ hb
    have HNE := hQQ hne
    have hq : (e != 0) = true := by simp [hne]
    clear hb CB hne
    go_wp2_with fail
    try simp only [jumpM]
    go_ret
    show ReadR w0 g X _ _
    rw [HE.out]
    exact ⟨rfl, HNE.out, HB.out⟩
  | ok acc2 =>
    rw [hbg] at CB hres
    have HE : Hid (readS k (aaQm r) acc2 = X) := hres
    clear hres hbg
    go_wp2_with fail
    refine CB.out.mono ?_
    intro en w2 hp
    obtain ⟨rfl, hA2⟩ := HA.out.begun hr hp
    have HA2 := hQQ hA2
    clear hp hA2 CB
    go_wp2_with fail
    refine wp_goto ?_
    change ∃ m', m' < n ∧ ∃ m, JQ w0 g m X 0 m' _ _
    refine ⟨2 * r.length + 1, by omega, m, r, acc2, k, _, hr, HA2.out, ⟨_, rfl, rfl, rfl, rfl, rfl⟩, hk, .inl ⟨rfl, rfl, HE.out⟩⟩
 case p0 =>
  rintro n a w ⟨m, r, acc, k, v7, hr, hA, hsl, hk, hor⟩
  obtain ⟨U, rfl⟩ := hsl.lit
  obtain ⟨hn, hres⟩ : n = 2 * r.length + 1 ∧ readS k (aaQm r) acc = X := by
   rcases hor with ⟨-, h1, h2⟩ | ⟨h0, -⟩
   ·exact ⟨h1, h2⟩
   ·cases h0
  clear hor
  obtain ⟨k, rfl⟩ : ∃ k', k = k' + 1 := ⟨k - 1, by omega⟩
  obtain ⟨Ar, cr, hrd, hge⟩ := hA.rd
  have hbelA := hA.bel
  have CL := hQQ (anQt g r _ w hrd hr (HMX.out.below hbelA))
  have CW := hQQ (hA.whole HT.out)
  have HA := hQQ hA
  have HWT := hQQ hA.wt
  have HRD := hQQ hrd
  have r0 := Blk.cell hrd 0
  simp at r0
  clear hA hrd hbelA
  by_cases hr0 : r = []
  ·have he : (mkS r).toList.isEmpty = true := by rw [abQb, hr0]; rfl
   have hres2 : (if aaQ4 acc = 0 then .ok acc else .error (aaQ4 acc)) = X := by rw [← hres, hr0]; rfl
   have HE := hQQ hres2
   obtain ⟨Ax, cx, xs, hAll, hxs⟩ := HA.out.all
   have HAL := hQQ hAll
   have HXS := hQQ hxs
   clear hres hres2 hr0 hAll hxs CL
   generalize mkS r = SR at *
   go_wp2_with fail
   refine CW.out.mono ?_
   rintro e w2 ⟨rfl, hb⟩
   have HB := hQQ (HAL.out.below hb)
   clear hb CW
   go_wp2_with fail
   try simp only [jumpM]
   go_ret
   show ReadR w0 g X _ _
   by_cases h0 : aaQ4 acc = 0
   ·have := HE.out
    rw [if_pos h0] at this
    rw [← this, h0]
    exact ⟨rfl, r, _, xs, HB.out, HXS.out.symm⟩
   ·have := HE.out
    rw [if_neg h0] at this
    rw [← this]
    exact ⟨rfl, h0, HB.out.bel⟩
  obtain ⟨c1, c2, c3⟩ := agQr 10 r
  have c3 := (c3 hr0).1
  have he : (mkS r).toList.isEmpty = false := by rw [abQb]; simpa using hr0
  rw [afQz hr0, adQe] at hres
  rw [afQz hr0] at hk
  have hk2 : (aaQm (Lib.cut r [10]).2.1).length < k := Nat.lt_of_succ_lt_succ hk
  clear hk
  have hl1 : (Lib.cut r [10]).1.length ≤ 40000 := Nat.le_trans c1 hr
  have hl2 : (Lib.cut r [10]).2.1.length ≤ r.length := Nat.le_of_lt c3
  clear CW c1 c2 hr0
  generalize (Lib.cut r [10]).1 = ln at *
  generalize (Lib.cut r [10]).2.1 = rest at *
  have hrest : rest.length ≤ 40000 := by omega
  have CI := hQQ (fun w => ahQl ln hl1 w)
  generalize hSR : mkS r = SR at *
  by_cases hly : isLay ln = true
  ·have hst : lineS ln acc.isEmpty = .skip := by
    unfold lineS
    rw [if_pos (.inl hly)]
   rw [hst] at hres
   have HE : Hid (readS k (aaQm rest) acc = X) := hres
   rw [hly] at CI
   clear hres hst hly
   generalize mkS ln = LN at *
   go_wp2_with fail
   refine CL.out.mono ?_
   rintro e w2 ⟨rfl, hrd2, htn⟩
   have HA2 := hQQ (HA.out.line HRD.out htn hrd2 hl2)
   clear hrd2 htn CL
   go_wp2_with fail
   refine (CI.out _).mono ?_
   rintro e w3 ⟨rfl, hb⟩
   have HA3 := hQQ (HA2.out.below hb)
   clear hb CI
   go_wp2_with fail
   refine wp_goto ?_
   change ∃ m', m' < n ∧ ∃ m, JQ w0 g m X 0 m' _ _
   refine ⟨2 * rest.length + 1, by omega, m, rest, acc, k, _, hrest, HA3.out, ⟨_, rfl, rfl, rfl, rfl, rfl⟩, hk2, .inl ⟨rfl, rfl, HE.out⟩⟩
  have hly : isLay ln = false := by simpa using hly
  rw [hly] at CI
  obtain ⟨b, ln2, hcons⟩ : ∃ b ln2, ln = b :: ln2 := by
   cases ln with
   | nil => cases hly
   | cons b r => exact ⟨b, r, rfl⟩
  have hz : 0 < (mkS ln).size := by rw [aaQg, hcons]; simp
  have hget : (mkS ln)[0]'hz = b := by
   have h1 := aaQw hz
   rw [aaQn] at h1
   have h2 : ln[0]? = some b := by rw [hcons]; rfl
   rw [h2] at h1
   injection h1 with h1
   exact h1.symm
  by_cases h35 : b = 35
  ·have hst : lineS ln acc.isEmpty = .skip := by
    unfold lineS
    rw [if_pos (.inr (by rw [hcons]; exact h35))]
   rw [hst] at hres
   have HE : Hid (readS k (aaQm rest) acc = X) := hres
   have t35 : (((mkS ln)[0].toNat : Int) == 35) = true := by rw [hget, h35]; rfl
   clear hres hst hly hget h35 hcons
   generalize mkS ln = LN at *
   go_wp2_with fail
   refine CL.out.mono ?_
   rintro e w2 ⟨rfl, hrd2, htn⟩
   have HA2 := hQQ (HA.out.line HRD.out htn hrd2 hl2)
   clear hrd2 htn CL
   go_wp2_with fail
   refine (CI.out _).mono ?_
   rintro e w3 ⟨rfl, hb⟩
   have HA3 := hQQ (HA2.out.below hb)
   clear hb CI
   go_wp2_with fail
   refine wp_goto ?_
   change ∃ m', m' < n ∧ ∃ m, JQ w0 g m X 0 m' _ _
   refine ⟨2 * rest.length + 1, by omega, m, rest, acc, k, _, hrest, HA3.out, ⟨_, rfl, rfl, rfl, rfl, rfl⟩, hk2, .inl ⟨rfl, rfl, HE.out⟩⟩
  have t35 : (((mkS ln)[0].toNat : Int) == 35) = false := by
   rw [hget]
   have : b.toNat ≠ 35 := fun e => h35 (UInt8.toNat_inj.1 (by rw [e]; rfl))
   simp
   omega
  have hst : lineS ln acc.isEmpty = lineP (acQl ln) acc.isEmpty := by
   unfold lineS
   rw [if_neg (by rw [hly, hcons]; rintro (h | h); · cases h
                  ·exact h35 h)]
  rw [hst] at hres
  have CP : Hid (∀ w, MaxAt w → Calls Tryz.prog 74 #[.string (mkS ln)] w fun e w' => e = .returned (adQ5 (acQl ln)) ∧ Below w.heap.size w w') := by
   intro w hw
   rw [hcons]
   exact aqQu b ln2 (by rw [← hcons]; exact hl1) w hw
  clear hst hly hget h35 hcons
  have hsaid := aoQ5 hl1
  obtain ⟨⟨sg, tg, sd, is⟩, hP⟩ : ∃ P, P = acQl ln := ⟨_, rfl⟩
  rw [← hP] at hres CP hsaid
  have htl : tg.length ≤ 40000 := hsaid.1
  have hsl : sd.length ≤ 40000 := hsaid.2
  clear hsaid
  clear hP
  unfold adQ5 at CP
  simp only at CP
  generalize mkS ln = LN at *
  go_wp2_with fail
  refine CL.out.mono ?_
  rintro e w2 ⟨rfl, hrd2, htn⟩
  have HA2 := hQQ (HA.out.line HRD.out htn hrd2 hl2)
  clear hrd2 htn CL
  go_wp2_with fail
  refine (CI.out _).mono ?_
  rintro e w3 ⟨rfl, hb⟩
  have HA3 := hQQ (HA2.out.below hb)
  clear hb CI
  go_wp2_with fail
  refine (CP.out _ (HMX.out.below HA3.out.bel)).mono ?_
  rintro e w4 ⟨rfl, hb⟩
  have HA4 := hQQ (HA3.out.below hb)
  clear hb CP HA HA2 HA3 HRD
  have he2 : acc.isEmpty = decide (acc = []) := by cases acc <;> rfl
  rw [he2] at hres
  clear he2
  have Hdp : Hid (((mkS tg).toList == [80, 107, 103]) = decide (tg = pkgN)) := by show (_ == _) = _; rw [aiQ8]; exact eqB _ _
  have Hdv : Hid (((mkS tg).toList == [86, 101, 114]) = decide (tg = verN_)) := by show (_ == _) = _; rw [aiQ8]; exact eqB _ _
  have Hd1 : Hid (((mkS [sg]).toList == [61]) = decide (sg = 61)) := by show (_ == _) = _; rw [aiQ8]; exact eqS _ _
  have Hd4 : Hid (((mkS [sg]).toList == [43]) = decide (sg = 43)) := by show (_ == _) = _; rw [aiQ8]; exact eqS _ _
  unfold lineP at hres
  simp only at hres
  obtain ⟨TG, hTG⟩ : ∃ TG, TG = mkS tg := ⟨_, rfl⟩
  obtain ⟨SD, hSD⟩ : ∃ SD, SD = mkS sd := ⟨_, rfl⟩
  obtain ⟨SG, hSG⟩ : ∃ SG, SG = mkS [sg] := ⟨_, rfl⟩
  have HTG := hQQ hTG
  have HSD := hQQ hSD
  rw [← hTG] at Hdp Hdv
  rw [← hSG] at Hd1 Hd4
  rw [← hTG, ← hSD, ← hSG]
  clear hTG hSD hSG
  obtain ⟨W, hW⟩ : ∃ W, W = w4.alloc (Obj.cells #[.string SD] 9) := ⟨_, rfl⟩
  have hbW : Below w4.heap.size w4 W := by rw [hW]; exact (Below.refl _ _).alloc (Nat.le_refl _) _
  have HA5 := hQQ (HA4.out.below hbW)
  have HVS : Hid (Blk W w4.heap.size 9 #[.string (mkS sd)]) := by rw [hW, ← HSD.out]; exact Blk.new _ _ _
  have HCS : Hid (acc = [] ∧ AllM w0 W w0.heap.size g rest (.slice none 0 0) [] ∨ ∃ b1 pb cap ys x, acc = ys.map Sk5.S ++ [x.S] ∧ SuM w0 W w0.heap.size g b1 rest pb cap ys x ∧ GoodK x.S ∧ (∀ k, x.fs.ownBlock = some k → k < w4.heap.size)) := by
   obtain ⟨-, ⟨h1, h2⟩ | ⟨b1, pb, cap, ys, x, h1, h2, h3, -⟩⟩ := HA4.out
   ·exact .inl ⟨h1, h2.below hbW⟩
   ·exact .inr ⟨b1, pb, cap, ys, x, h1, h2.below hbW, h3, fun k hk => adQx h2.last.fil hk⟩
  clear hbW HA4
  go_upto_region 8 with fail
  rw [← hW]
  clear hW
  generalize w4.heap.size = vb at *
  skip
  cases is with
  | false =>
    have HE : Hid (X = .error 130) := hres.symm
    clear hres
    go_wp2_with fail
    try simp only [jumpM]
    go_ret
    show ReadR w0 g X _ _
    rw [HE.out]
    exact ⟨rfl, by decide, HA5.out.bel⟩
  | true =>
    rw [if_neg (by decide)] at hres
    by_cases c1 : sg = 61 ∧ tg = pkgN
    ·rw [if_pos c1] at hres
     have HE := hQQ hres
     have hd1 : (SG.toList == [61]) = true := by rw [Hd1.out]; simp [c1.1]
     have hdp : (TG.toList == [80, 107, 103]) = true := by rw [Hdp.out]; simp [c1.2]
     clear hres c1
     go_wp2_with fail
     refine wp_goto ?_
     change ∃ m', m' < n ∧ ∃ m, JQ w0 g m X 1 m' _ _
     refine ⟨2 * rest.length + 2, by omega, m, rest, acc, k, _, hrest, HA5.out, ⟨_, rfl, rfl, rfl, rfl, rfl⟩, hk2, .inr ⟨rfl, rfl, sd, congrArg Value.string HSD.out, hsl, HE.out⟩⟩
    rw [if_neg c1] at hres
    rcases HCS.out with ⟨hac, hAl⟩ | ⟨b1, pb, cap, ys, x, hac, hS, hG, hfs⟩
    ·subst hac
     have r5 := Blk.cell hAl.rd 1
     simp at r5
     clear hAl HCS HWT
     by_cases h61 : sg = 61
     ·by_cases hve : tg = verN_
      ·rw [if_pos ⟨⟨h61, hve⟩, by simp⟩] at hres
       have HE : Hid (readS k (aaQm rest) [] = X) := hres
       have hd1 : (SG.toList == [61]) = true := by rw [Hd1.out]; simp [h61]
       have hdp : (TG.toList == [80, 107, 103]) = false := by rw [Hdp.out]; simp; exact fun e => c1 ⟨h61, e⟩
       have hdv : (TG.toList == [86, 101, 114]) = true := by rw [Hdv.out]; simp [hve]
       clear hres c1 h61 hve
       go_wp2_with fail
       refine wp_goto ?_
       change ∃ m', m' < n ∧ ∃ m, JQ w0 g m X 0 m' _ _
       refine ⟨2 * rest.length + 1, by omega, m, rest, [], k, _, by omega, HA5.out, ⟨_, rfl, rfl, rfl, rfl, rfl⟩, hk2, .inl ⟨rfl, rfl, HE.out⟩⟩
      ·rw [if_neg (fun h => hve h.1.2), if_pos (by simp)] at hres
       have HE : Hid (X = .error 130) := hres.symm
       have hd1 : (SG.toList == [61]) = true := by rw [Hd1.out]; simp [h61]
       have hdp : (TG.toList == [80, 107, 103]) = false := by rw [Hdp.out]; simp; exact fun e => c1 ⟨h61, e⟩
       have hdv : (TG.toList == [86, 101, 114]) = false := by rw [Hdv.out]; simp [hve]
       clear hres c1 h61 hve
       go_wp2_with fail
       try simp only [jumpM]
       go_ret
       show ReadR w0 g X _ _
       rw [HE.out]
       exact ⟨rfl, by decide, HA5.out.bel⟩
     ·rw [if_neg (fun h => h61 h.1.1), if_pos (by simp)] at hres
      have HE : Hid (X = .error 130) := hres.symm
      have hd1 : (SG.toList == [61]) = false := by rw [Hd1.out]; simp [h61]
      clear hres c1 h61
      go_wp2_with fail
      try simp only [jumpM]
      go_ret
      show ReadR w0 g X _ _
      rw [HE.out]
      exact ⟨rfl, by decide, HA5.out.bel⟩
    subst hac
    have r5 := Blk.cell hS.rd 1
    simp at r5
    have h10 : ((ys.length : Int) + 1 == 0) = false := by simp; omega
    have HWT2 : Hid (wtK x.S + r.length ≤ 40000) := HWT.out _ _ rfl
    have HMN := hQQ HA5.out.1
    have HS := hQQ hS
    have HGK := hQQ hG
    have HFS := hQQ hfs
    rw [if_neg (fun h => by simpa using h.2), if_neg (by simp)] at hres
    clear hS hG hfs HCS HWT HA5
    by_cases h43 : sg = 43
    ·have h61 : sg ≠ 61 := by rw [h43]; decide
     rw [if_pos h43] at hres
     have hd1 : (SG.toList == [61]) = false := by rw [Hd1.out]; simp [h61]
     have hd4 : (SG.toList == [43]) = true := by rw [Hd4.out]; simp [h43]
     have CB := hQQ (arQw w0 W g tg rest _ HS.out.rd (by omega) htl HMX.out HS.out.le.1 HS.out.bel (Nat.le_trans HS.out.le.2.1 HS.out.le.2.2))
     rw [← HTG.out] at CB
     have hblen := fun vs' ls' => afQf tg (aaQm rest) [] vs' ls'
     have HFS2 : Hid (∀ k, x.fs.ownBlock = some k → k < W.heap.size) := fun k hk => adQx HS.out.last.fil hk
     clear c1 h61 h43 Hd1 Hd4 Hdp Hdv HVS HFS
     have hres : (match abQj tg (aaQm rest) [] with | none => .error 130 | some (vs, ls') => thenS (lastT tg vs (ys.map Sk5.S ++ [x.S])) (readS k ls')) = X := hres
     obtain ⟨Z, hZ⟩ : ∃ Z, Z = abQj tg (aaQm rest) [] := ⟨_, rfl⟩
     rw [← hZ] at hres CB hblen
     clear hZ
     cases Z with
     | none =>
       have HE : Hid (X = .error 130) := hres.symm
       clear hres hblen
       go_wp2_with fail
       refine CB.out.mono ?_
       rintro e w6 ⟨r', rfl, hr6, ht6⟩
       have HB6 : Hid (Below w0.heap.size w0 w6) := HS.out.bel.trans (ht6.below (fun k hk => by rw [List.mem_singleton.1 hk]; exact HS.out.le.1) (Nat.le_trans HS.out.le.2.1 HS.out.le.2.2))
       clear hr6 ht6 CB
       go_upto_region 16 with fail
       refine aaQu (TillP 99 (fun _ => True)) (by kernel_rfl) (fun _ => trivial) (fun hS => ?_)
       try simp only [sx, Act.put]
       refine aaQa (i := 0) (fun w' => True) (v := (.bool false)) rfl (by kernel_rfl) (by kernel_rfl) (by kernel_rfl) (fun _ _ _ h => h) (fun _ _ _ _ => trivial) (TillP.io (by decide)) (by kernel_rfl) hS (fun w' hSw => ?_) (by kernel_rfl) ?_
       ·go_simp
       clear hS
       intro hS
       try simp only [sx, Act.put]
       refine aaQa (i := 1) (fun w' => True) (v := (.bool true)) rfl (by kernel_rfl) (by kernel_rfl) (by kernel_rfl) (fun _ _ _ h => h) (fun _ _ _ _ => trivial) (TillP.io (by decide)) (by kernel_rfl) hS (fun w' hSw => ?_) (by kernel_rfl) ?_
       ·go_simp
       clear hS
       intro hS
       try simp only [sx, Act.put]
       refine aaQa (i := 2) (fun w' => True) (v := (.bool true)) rfl (by kernel_rfl) (by kernel_rfl) (by kernel_rfl) (fun _ _ _ h => h) (fun _ _ _ _ => trivial) (TillP.io (by decide)) (by kernel_rfl) hS (fun w' hSw => ?_) (by kernel_rfl) ?_
       ·go_simp
       clear hS
       intro hS
       try simp only [sx, Act.put]
       refine abQs (i := 3) rfl (by kernel_rfl) (by kernel_rfl) (by kernel_rfl) (fun _ _ _ h => h) (TillP.io (by decide)) (by kernel_rfl) hS (by kernel_rfl) ?_
       clear hS
       intro hS
       try simp only [sx, Act.put]
       refine abQs (i := 4) rfl (by kernel_rfl) (by kernel_rfl) (by kernel_rfl) (fun _ _ _ h => h) (TillP.io (by decide)) (by kernel_rfl) hS (by kernel_rfl) ?_
       clear hS
       intro hS
       try simp only [sx, Act.put]
       refine abQs (i := 5) rfl (by kernel_rfl) (by kernel_rfl) (by kernel_rfl) (fun _ _ _ h => h) (TillP.io (by decide)) (by kernel_rfl) hS (by kernel_rfl) ?_
       clear hS
       intro hS
       try simp only [sx, Act.put]
       refine abQs (i := 6) rfl (by kernel_rfl) (by kernel_rfl) (by kernel_rfl) (fun _ _ _ h => h) (TillP.io (by decide)) (by kernel_rfl) hS (by kernel_rfl) ?_
       clear hS
       intro hS
       try simp only [sx, Act.put]
       refine abQs (i := 7) rfl (by kernel_rfl) (by kernel_rfl) (by kernel_rfl) (fun _ _ _ h => h) (TillP.io (by decide)) (by kernel_rfl) hS (by kernel_rfl) ?_
       clear hS
       intro hS
       try simp only [sx, Act.put]
       refine abQs (i := 8) rfl (by kernel_rfl) (by kernel_rfl) (by kernel_rfl) (fun _ _ _ h => h) (TillP.io (by decide)) (by kernel_rfl) hS (by kernel_rfl) ?_
       clear hS
       intro hS
       try simp only [sx, Act.put]
       refine abQs (i := 9) rfl (by kernel_rfl) (by kernel_rfl) (by kernel_rfl) (fun _ _ _ h => h) (TillP.io (by decide)) (by kernel_rfl) hS (by kernel_rfl) ?_
       clear hS
       intro hS
       try simp only [sx, Act.put]
       refine abQs (i := 10) rfl (by kernel_rfl) (by kernel_rfl) (by kernel_rfl) (fun _ _ _ h => h) (TillP.io (by decide)) (by kernel_rfl) hS (by kernel_rfl) ?_
       clear hS
       intro hS
       try simp only [sx, Act.put]
       refine aaQa (i := 11) (fun w' => True) (v := (.bool true)) rfl (by kernel_rfl) (by kernel_rfl) (by kernel_rfl) (fun _ _ _ h => h) (fun _ _ _ _ => trivial) (TillP.io (by decide)) (by kernel_rfl) hS (fun w' hSw => ?_) (by kernel_rfl) ?_
       ·go_simp
       clear hS
       intro hS
       try simp only [sx, Act.put]
       refine aaQh (by kernel_rfl) ?_ _
       try simp only [sx, Act.put]
       go_wp2_with fail
       try simp only [jumpM]
       go_ret
       show ReadR w0 g X _ _
       rw [HE.out]
       exact ⟨rfl, by decide, HB6.out.drew⟩
     | some z =>
       obtain ⟨vs, ls'⟩ := z
       have hlt2 := hblen vs ls' rfl
       have hres : thenS (lastT tg vs (ys.map Sk5.S ++ [x.S])) (readS k ls') = X := hres
       clear hblen
       skip
       go_wp2_with fail
       refine CB.out.mono ?_
       rintro e w6 ⟨r', vv, rfl, hl6, hlen6, hr6, ho6, hvl6, hpl6, ht6⟩
       obtain ⟨A6, c6, rfl, hn6, hm6⟩ := aaQc ho6
       have HS6 := hQQ (HS.out.line ht6 hr6)
       have HM6 : Hid (MeanM w6 w0.heap.size m) := HMN.out.turned ht6 (fun b cs hb hm => by rw [List.mem_singleton.1 hm] at hb; exact Blk.kind hb HS.out.rd (by decide) rfl) (fun hm => by obtain ⟨l, hl, _⟩ := HMN.out; exact acQz hl HS.out.rd (List.mem_singleton.1 hm))
       have HV6 := hQQ (vals_row ho6 HFS2.out)
       have HPL := hQQ hpl6
       have hk6 : (aaQm r').length < k := by rw [hl6]; omega
       have hlr : r'.length ≤ rest.length := by omega
       have hwv : vs.length + r'.length ≤ r.length := by omega
       subst hl6
       clear ho6 hr6 ht6 hpl6 CB HMN HS HFS2 r5
       have hres : thenS (lastT tg vs (ys.map Sk5.S ++ [x.S])) (readS k (aaQm r')) = X := hres
       rw [anQd] at hres
       obtain ⟨lm, hlm, hmg⟩ := HM6.out
       have HMG := hQQ (hmg tg)
       have HLT : Hid (∀ i, mgOf tg = .dep i → i < 7) := mg_lt HMG.out
       have HCL := hQQ (anQw HS6.out)
       have HLK := hQQ (anQr hlm TG)
       rw [← HTG.out] at HMG
       have HCP := hQQ (aqQs (c := c6) HDP.out HT.out rfl HS6.out HM6.out HMG.out HV6.out HPL.out (by show wtK x.S + vs.length ≤ 100000; have := HWT2.out; omega))
       generalize (lookO TG lm).getD Value.nilFunc = fv at *
       clear hmg hlm HMG
       obtain ⟨Y, hY⟩ : ∃ Y, Y = putM (mgOf tg) vs x.S := ⟨_, rfl⟩
       rw [← hY] at hres HCP
       have HY := hQQ hY
       clear hY
       go_upto_region 16 with fail
       refine aaQu (TillP 9 (Drn w6)) (by kernel_rfl) (fun _ => ⟨1, rfl⟩) (fun hS => ?_)
       try simp only [sx, Act.put]
       refine aaQa (i := 0) (fun w' => True) (v := (.bool true)) rfl (by kernel_rfl) (by kernel_rfl) (by kernel_rfl) (fun _ _ _ h => h) (fun _ _ _ _ => trivial) (TillP.io (by decide)) (by kernel_rfl) hS (fun w' hSw => ?_) (by kernel_rfl) ?_
       ·go_simp
       clear hS
       intro hS
       try simp only [sx, Act.put]
       refine aaQa (i := 1) (fun w' => True) (v := (.bool false)) rfl (by kernel_rfl) (by kernel_rfl) (by kernel_rfl) (fun _ _ _ h => h) (fun _ _ _ _ => trivial) (TillP.io (by decide)) (by kernel_rfl) hS (fun w' hSw => ?_) (by kernel_rfl) ?_
       ·go_simp
       clear hS
       intro hS
       try simp only [sx, Act.put]
       refine aaQa (i := 2) (fun w' => True) (v := (.bool false)) rfl (by kernel_rfl) (by kernel_rfl) (by kernel_rfl) (fun _ _ _ h => h) (fun _ _ _ _ => trivial) (TillP.io (by decide)) (by kernel_rfl) hS (fun w' hSw => ?_) (by kernel_rfl) ?_
       ·go_simp
       clear hS
       intro hS
       try simp only [sx, Act.put]
       refine aaQa (i := 3) (fun w' => True) (v := (.pointer (some ⟨g, 0, none⟩))) rfl (by kernel_rfl) (by kernel_rfl) (by kernel_rfl) (fun _ _ _ h => h) (fun _ _ _ _ => trivial) (TillP.io (by decide)) (by kernel_rfl) hS (fun w' hSw => ?_) (by kernel_rfl) ?_
       ·go_simp
       clear hS
       intro hS
       try simp only [sx, Act.put]
       refine aaQa (i := 5) (fun w' => True) (v := (.map (some m))) rfl (by kernel_rfl) (by kernel_rfl) (by kernel_rfl) (fun _ _ _ h => h) (fun _ _ _ _ => trivial) (TillP.io (by decide)) (by kernel_rfl) hS (fun w' hSw => ?_) (by kernel_rfl) ?_
       ·go_simp
       clear hS
       intro hS
       try simp only [sx, Act.put]
       refine aaQa (i := 6) (fun w' => True) (v := (.string TG)) rfl (by kernel_rfl) (by kernel_rfl) (by kernel_rfl) (fun _ _ _ h => h) (fun _ _ _ _ => trivial) (TillP.io (by decide)) (by kernel_rfl) hS (fun w' hSw => ?_) (by kernel_rfl) ?_
       ·go_simp
       clear hS
       intro hS
       try simp only [sx, Act.put]
       refine aaQa (i := 8) (fun w' => True) (v := (.slice A6 vs.length c6)) rfl (by kernel_rfl) (by kernel_rfl) (by kernel_rfl) (fun _ _ _ h => h) (fun _ _ _ _ => trivial) (TillP.io (by decide)) (by kernel_rfl) hS (fun w' hSw => ?_) (by kernel_rfl) ?_
       ·go_simp
       clear hS
       intro hS
       try simp only [sx, Act.put]
       refine abQx (i := 4) (j := 7) (by kernel_rfl) rfl rfl (fun K hK => ?_) (fun K hK => ?_)
       ·skip
        go_simp
        refine (HCL.out _ ⟨1, rfl⟩).mono ?_
        rintro e wl ⟨rfl, hd⟩
        refine hK.out _ _ (fun _ => hd) ?_
        clear hS hK
        intro hS
        try simp only [sx, Act.put]
        refine aaQb (i := 7) (by kernel_rfl) rfl (fun K hK => ?_)
        have hd := hS (by simp)
        have hlk := HLK.out _ hd
        go_simp
        refine hK.out _ _ (fun _ => hd) ?_
        clear hS hK hlk
        intro hS
        try simp only [sx, Act.put]
        refine aaQb (i := 9) (by kernel_rfl) rfl (fun K hK => ?_)
        go_simp
        refine (HCP.out _ hd).mono ?_
        intro e w7 hp
        cases Y with
        | none =>
          obtain ⟨rfl, hb7⟩ := hp
          have HE : Hid (X = .error 130) := hres.symm
          have HB7 := hQQ hb7
          clear hb7 hres
          refine hK.out _ _ (fun h => by simp at h) ?_
          clear hS hK
          intro hS
          try simp only [sx, Act.put]
          refine aaQa (i := 10) (fun w' => True) (v := (.bool true)) rfl (by kernel_rfl) (by kernel_rfl) (by kernel_rfl) (fun _ _ _ h => h) (fun _ _ _ _ => trivial) (TillP.io (by decide)) (by kernel_rfl) hS (fun w' hSw => ?_) (by kernel_rfl) ?_
          ·go_simp
          clear hS
          intro hS
          try simp only [sx, Act.put]
          refine aaQa (i := 11) (fun w' => True) (v := (.bool true)) rfl (by kernel_rfl) (by kernel_rfl) (by kernel_rfl) (fun _ _ _ h => h) (fun _ _ _ _ => trivial) (TillP.io (by decide)) (by kernel_rfl) hS (fun w' hSw => ?_) (by kernel_rfl) ?_
          ·go_simp
          clear hS
          intro hS
          try simp only [sx, Act.put]
          refine aaQh (by kernel_rfl) ?_ _
          try simp only [sx, Act.put]
          go_wp2_with fail
          try simp only [jumpM]
          go_ret
          show ReadR w0 g X _ _
          rw [HE.out]
          exact ⟨rfl, by decide, HB7.out⟩
        | some S' =>
          obtain ⟨rfl, x', hx', hS7, hM7⟩ := hp
          have HE : Hid (readS k (aaQm r') (ys.map Sk5.S ++ [S']) = X) := hres
          have hgk := aeQ9 HGK.out HY.out.symm
          have hwt := ajQ0 HLT.out HY.out.symm
          have HA7 : Hid (AccSt w0 w7 g m r' (ys.map Sk5.S ++ [S'])) := ⟨hM7, .inr ⟨b1, pb, cap, ys, x', by rw [hx'], hS7, by rw [hx']; exact hgk, by rw [hx']; have := HWT2.out; have := hwv; omega⟩⟩
          clear hx' hS7 hM7 hgk hwt hres
          refine hK.out _ _ (fun h => by simp at h) ?_
          clear hS hK
          intro hS
          try simp only [sx, Act.put]
          refine aaQa (i := 10) (fun w' => True) (v := (.bool false)) rfl (by kernel_rfl) (by kernel_rfl) (by kernel_rfl) (fun _ _ _ h => h) (fun _ _ _ _ => trivial) (TillP.io (by decide)) (by kernel_rfl) hS (fun w' hSw => ?_) (by kernel_rfl) ?_
          ·go_simp
          clear hS
          intro hS
          try simp only [sx, Act.put]
          refine aaQa (i := 11) (fun w' => True) (v := (.bool false)) rfl (by kernel_rfl) (by kernel_rfl) (by kernel_rfl) (fun _ _ _ h => h) (fun _ _ _ _ => trivial) (TillP.io (by decide)) (by kernel_rfl) hS (fun w' hSw => ?_) (by kernel_rfl) ?_
          ·go_simp
          clear hS
          intro hS
          try simp only [sx, Act.put]
          refine aaQh (by kernel_rfl) ?_ _
          try simp only [sx, Act.put]
          go_wp2_with fail
          refine wp_goto ?_
          change ∃ m', m' < n ∧ ∃ m, JQ w0 g m X 0 m' _ _
          refine ⟨2 * r'.length + 1, by omega, m, r', (ys.map Sk5.S ++ [S']), k, _, by omega, HA7.out, ⟨_, rfl, rfl, rfl, rfl, rfl⟩, hk6, .inl ⟨rfl, rfl, HE.out⟩⟩
       ·skip
        have hlk := HLK.out w6.drew ⟨1, rfl⟩
        go_simp
        refine hK.out _ _ (fun _ => ⟨1, rfl⟩) ?_
        clear hS hK hlk
        intro hS
        try simp only [sx, Act.put]
        refine aaQb (i := 4) (by kernel_rfl) rfl (fun K hK => ?_)
        go_simp
        refine (HCL.out _ ⟨1, rfl⟩).mono ?_
        rintro e wl ⟨rfl, hd⟩
        refine hK.out _ _ (fun _ => hd) ?_
        clear hS hK
        intro hS
        try simp only [sx, Act.put]
        have hd := hS (by simp)
        refine aaQb (i := 9) (by kernel_rfl) rfl (fun K hK => ?_)
        go_simp
        refine (HCP.out _ hd).mono ?_
        intro e w7 hp
        cases Y with
        | none =>
          obtain ⟨rfl, hb7⟩ := hp
          have HE : Hid (X = .error 130) := hres.symm
          have HB7 := hQQ hb7
          clear hb7 hres
          refine hK.out _ _ (fun h => by simp at h) ?_
          clear hS hK
          intro hS
          try simp only [sx, Act.put]
          refine aaQa (i := 10) (fun w' => True) (v := (.bool true)) rfl (by kernel_rfl) (by kernel_rfl) (by kernel_rfl) (fun _ _ _ h => h) (fun _ _ _ _ => trivial) (TillP.io (by decide)) (by kernel_rfl) hS (fun w' hSw => ?_) (by kernel_rfl) ?_
          ·go_simp
          clear hS
          intro hS
          try simp only [sx, Act.put]
          refine aaQa (i := 11) (fun w' => True) (v := (.bool true)) rfl (by kernel_rfl) (by kernel_rfl) (by kernel_rfl) (fun _ _ _ h => h) (fun _ _ _ _ => trivial) (TillP.io (by decide)) (by kernel_rfl) hS (fun w' hSw => ?_) (by kernel_rfl) ?_
          ·go_simp
          clear hS
          intro hS
          try simp only [sx, Act.put]
          refine aaQh (by kernel_rfl) ?_ _
          try simp only [sx, Act.put]
          go_wp2_with fail
          try simp only [jumpM]
          go_ret
          show ReadR w0 g X _ _
          rw [HE.out]
          exact ⟨rfl, by decide, HB7.out⟩
        | some S' =>
          obtain ⟨rfl, x', hx', hS7, hM7⟩ := hp
          have HE : Hid (readS k (aaQm r') (ys.map Sk5.S ++ [S']) = X) := hres
          have hgk := aeQ9 HGK.out HY.out.symm
          have hwt := ajQ0 HLT.out HY.out.symm
          have HA7 : Hid (AccSt w0 w7 g m r' (ys.map Sk5.S ++ [S'])) := ⟨hM7, .inr ⟨b1, pb, cap, ys, x', by rw [hx'], hS7, by rw [hx']; exact hgk, by rw [hx']; have := HWT2.out; have := hwv; omega⟩⟩
          clear hx' hS7 hM7 hgk hwt hres
          refine hK.out _ _ (fun h => by simp at h) ?_
          clear hS hK
          intro hS
          try simp only [sx, Act.put]
          refine aaQa (i := 10) (fun w' => True) (v := (.bool false)) rfl (by kernel_rfl) (by kernel_rfl) (by kernel_rfl) (fun _ _ _ h => h) (fun _ _ _ _ => trivial) (TillP.io (by decide)) (by kernel_rfl) hS (fun w' hSw => ?_) (by kernel_rfl) ?_
          ·go_simp
          clear hS
          intro hS
          try simp only [sx, Act.put]
          refine aaQa (i := 11) (fun w' => True) (v := (.bool false)) rfl (by kernel_rfl) (by kernel_rfl) (by kernel_rfl) (fun _ _ _ h => h) (fun _ _ _ _ => trivial) (TillP.io (by decide)) (by kernel_rfl) hS (fun w' hSw => ?_) (by kernel_rfl) ?_
          ·go_simp
          clear hS
          intro hS
          try simp only [sx, Act.put]
          refine aaQh (by kernel_rfl) ?_ _
          try simp only [sx, Act.put]
          go_wp2_with fail
          refine wp_goto ?_
          change ∃ m', m' < n ∧ ∃ m, JQ w0 g m X 0 m' _ _
          refine ⟨2 * r'.length + 1, by omega, m, r', (ys.map Sk5.S ++ [S']), k, _, by omega, HA7.out, ⟨_, rfl, rfl, rfl, rfl, rfl⟩, hk6, .inl ⟨rfl, rfl, HE.out⟩⟩
    rw [if_neg h43] at hres
    have hd4 : (SG.toList == [43]) = false := by rw [Hd4.out]; simp [h43]
    have HV5 : Hid (VsAt W (some ⟨vb, 0, none⟩) [sd] x.fs) := vals_one HVS.out (fun e => by have := HFS.out vb e; omega)
    have c3 : ((SG.toList == [61]) = true ∧ (TG.toList == [80, 107, 103]) = false ∧ (TG.toList == [86, 101, 114]) = true) ∨ ((SG.toList == [61]) = true ∧ (TG.toList == [80, 107, 103]) = false ∧ (TG.toList == [86, 101, 114]) = false) ∨ (SG.toList == [61]) = false := by
     by_cases h61 : sg = 61
     ·have hdp : (TG.toList == [80, 107, 103]) = false := by rw [Hdp.out]; simp; exact fun e => c1 ⟨h61, e⟩
      by_cases hve : tg = verN_
      ·exact .inl ⟨by rw [Hd1.out]; simp [h61], hdp, by rw [Hdv.out]; simp [hve]⟩
      ·exact .inr (.inl ⟨by rw [Hd1.out]; simp [h61], hdp, by rw [Hdv.out]; simp [hve]⟩)
     ·exact .inr (.inr (by rw [Hd1.out]; simp [h61]))
    clear c1 h43 Hd1 Hd4 Hdp Hdv HVS HFS
    rcases c3 with ⟨hd1, hdp, hdv⟩ | ⟨hd1, hdp, hdv⟩ | hd1
    all_goals
     have hres : thenS (lastT tg [sd] (ys.map Sk5.S ++ [x.S])) (readS k (aaQm rest)) = X := hres
     rw [anQd] at hres
     obtain ⟨lm, hlm, hmg⟩ := HMN.out
     have HMG := hQQ (hmg tg)
     have HLT : Hid (∀ i, mgOf tg = .dep i → i < 7) := mg_lt HMG.out
     have HCL := hQQ (anQw HS.out)
     have HLK := hQQ (anQr hlm TG)
     rw [← HTG.out] at HMG
     have HCP := hQQ (aqQs (c := 1) HDP.out HT.out rfl HS.out HMN.out HMG.out HV5.out (fun p hp => by rw [List.mem_singleton.1 hp]; exact hsl) (by show wtK x.S + 1 ≤ 100000; have := HWT2.out; omega))
     generalize (lookO TG lm).getD Value.nilFunc = fv at *
     clear hmg hlm HMG
     obtain ⟨Y, hY⟩ : ∃ Y, Y = putM (mgOf tg) [sd] x.S := ⟨_, rfl⟩
     rw [← hY] at hres HCP
     have HY := hQQ hY
     clear hY
     go_upto_region 16 with fail
     refine aaQu (TillP 9 (Drn W)) (by kernel_rfl) (fun _ => ⟨1, rfl⟩) (fun hS => ?_)
     try simp only [sx, Act.put]
     refine aaQa (i := 0) (fun w' => True) (v := (.bool true)) rfl (by kernel_rfl) (by kernel_rfl) (by kernel_rfl) (fun _ _ _ h => h) (fun _ _ _ _ => trivial) (TillP.io (by decide)) (by kernel_rfl) hS (fun w' hSw => ?_) (by kernel_rfl) ?_
     ·go_simp
     clear hS
     intro hS
     try simp only [sx, Act.put]
     refine aaQa (i := 1) (fun w' => True) (v := (.bool false)) rfl (by kernel_rfl) (by kernel_rfl) (by kernel_rfl) (fun _ _ _ h => h) (fun _ _ _ _ => trivial) (TillP.io (by decide)) (by kernel_rfl) hS (fun w' hSw => ?_) (by kernel_rfl) ?_
     ·go_simp
     clear hS
     intro hS
     try simp only [sx, Act.put]
     refine aaQa (i := 2) (fun w' => True) (v := (.bool false)) rfl (by kernel_rfl) (by kernel_rfl) (by kernel_rfl) (fun _ _ _ h => h) (fun _ _ _ _ => trivial) (TillP.io (by decide)) (by kernel_rfl) hS (fun w' hSw => ?_) (by kernel_rfl) ?_
     ·go_simp
     clear hS
     intro hS
     try simp only [sx, Act.put]
     refine aaQa (i := 3) (fun w' => True) (v := (.pointer (some ⟨g, 0, none⟩))) rfl (by kernel_rfl) (by kernel_rfl) (by kernel_rfl) (fun _ _ _ h => h) (fun _ _ _ _ => trivial) (TillP.io (by decide)) (by kernel_rfl) hS (fun w' hSw => ?_) (by kernel_rfl) ?_
     ·go_simp
     clear hS
     intro hS
     try simp only [sx, Act.put]
     refine aaQa (i := 5) (fun w' => True) (v := (.map (some m))) rfl (by kernel_rfl) (by kernel_rfl) (by kernel_rfl) (fun _ _ _ h => h) (fun _ _ _ _ => trivial) (TillP.io (by decide)) (by kernel_rfl) hS (fun w' hSw => ?_) (by kernel_rfl) ?_
     ·go_simp
     clear hS
     intro hS
     try simp only [sx, Act.put]
     refine aaQa (i := 6) (fun w' => True) (v := (.string TG)) rfl (by kernel_rfl) (by kernel_rfl) (by kernel_rfl) (fun _ _ _ h => h) (fun _ _ _ _ => trivial) (TillP.io (by decide)) (by kernel_rfl) hS (fun w' hSw => ?_) (by kernel_rfl) ?_
     ·go_simp
     clear hS
     intro hS
     try simp only [sx, Act.put]
     refine aaQa (i := 8) (fun w' => True) (v := (.slice (some ⟨vb, 0, none⟩) 1 1)) rfl (by kernel_rfl) (by kernel_rfl) (by kernel_rfl) (fun _ _ _ h => h) (fun _ _ _ _ => trivial) (TillP.io (by decide)) (by kernel_rfl) hS (fun w' hSw => ?_) (by kernel_rfl) ?_
     ·go_simp
     clear hS
     intro hS
     try simp only [sx, Act.put]
     refine abQx (i := 4) (j := 7) (by kernel_rfl) rfl rfl (fun K hK => ?_) (fun K hK => ?_)
     ·skip
      go_simp
      refine (HCL.out _ ⟨1, rfl⟩).mono ?_
      rintro e wl ⟨rfl, hd⟩
      refine hK.out _ _ (fun _ => hd) ?_
      clear hS hK
      intro hS
      try simp only [sx, Act.put]
      refine aaQb (i := 7) (by kernel_rfl) rfl (fun K hK => ?_)
      have hd := hS (by simp)
      have hlk := HLK.out _ hd
      go_simp
      refine hK.out _ _ (fun _ => hd) ?_
      clear hS hK hlk
      intro hS
      try simp only [sx, Act.put]
      refine aaQb (i := 9) (by kernel_rfl) rfl (fun K hK => ?_)
      go_simp
      refine (HCP.out _ hd).mono ?_
      intro e w7 hp
      cases Y with
      | none =>
        obtain ⟨rfl, hb7⟩ := hp
        have HE : Hid (X = .error 130) := hres.symm
        have HB7 := hQQ hb7
        clear hb7 hres
        refine hK.out _ _ (fun h => by simp at h) ?_
        clear hS hK
        intro hS
        try simp only [sx, Act.put]
        refine aaQa (i := 10) (fun w' => True) (v := (.bool true)) rfl (by kernel_rfl) (by kernel_rfl) (by kernel_rfl) (fun _ _ _ h => h) (fun _ _ _ _ => trivial) (TillP.io (by decide)) (by kernel_rfl) hS (fun w' hSw => ?_) (by kernel_rfl) ?_
        ·go_simp
        clear hS
        intro hS
        try simp only [sx, Act.put]
        refine aaQa (i := 11) (fun w' => True) (v := (.bool true)) rfl (by kernel_rfl) (by kernel_rfl) (by kernel_rfl) (fun _ _ _ h => h) (fun _ _ _ _ => trivial) (TillP.io (by decide)) (by kernel_rfl) hS (fun w' hSw => ?_) (by kernel_rfl) ?_
        ·go_simp
        clear hS
        intro hS
        try simp only [sx, Act.put]
        refine aaQh (by kernel_rfl) ?_ _
        try simp only [sx, Act.put]
        go_wp2_with fail
        try simp only [jumpM]
        go_ret
        show ReadR w0 g X _ _
        rw [HE.out]
        exact ⟨rfl, by decide, HB7.out⟩
      | some S' =>
        obtain ⟨rfl, x', hx', hS7, hM7⟩ := hp
        have HE : Hid (readS k (aaQm rest) (ys.map Sk5.S ++ [S']) = X) := hres
        have hgk := aeQ9 HGK.out HY.out.symm
        have hwt := ajQ0 HLT.out HY.out.symm
        have HA7 : Hid (AccSt w0 w7 g m rest (ys.map Sk5.S ++ [S'])) := ⟨hM7, .inr ⟨b1, pb, cap, ys, x', by rw [hx'], hS7, by rw [hx']; exact hgk, by rw [hx']; have := HWT2.out; have := c3; have : [sd].length = 1 := rfl; omega⟩⟩
        clear hx' hS7 hM7 hgk hwt hres
        refine hK.out _ _ (fun h => by simp at h) ?_
        clear hS hK
        intro hS
        try simp only [sx, Act.put]
        refine aaQa (i := 10) (fun w' => True) (v := (.bool false)) rfl (by kernel_rfl) (by kernel_rfl) (by kernel_rfl) (fun _ _ _ h => h) (fun _ _ _ _ => trivial) (TillP.io (by decide)) (by kernel_rfl) hS (fun w' hSw => ?_) (by kernel_rfl) ?_
        ·go_simp
        clear hS
        intro hS
        try simp only [sx, Act.put]
        refine aaQa (i := 11) (fun w' => True) (v := (.bool false)) rfl (by kernel_rfl) (by kernel_rfl) (by kernel_rfl) (fun _ _ _ h => h) (fun _ _ _ _ => trivial) (TillP.io (by decide)) (by kernel_rfl) hS (fun w' hSw => ?_) (by kernel_rfl) ?_
        ·go_simp
        clear hS
        intro hS
        try simp only [sx, Act.put]
        refine aaQh (by kernel_rfl) ?_ _
        try simp only [sx, Act.put]
        go_wp2_with fail
        refine wp_goto ?_
        change ∃ m', m' < n ∧ ∃ m, JQ w0 g m X 0 m' _ _
        refine ⟨2 * rest.length + 1, by omega, m, rest, (ys.map Sk5.S ++ [S']), k, _, by omega, HA7.out, ⟨_, rfl, rfl, rfl, rfl, rfl⟩, hk2, .inl ⟨rfl, rfl, HE.out⟩⟩
     ·skip
      have hlk := HLK.out W.drew ⟨1, rfl⟩
      go_simp
      refine hK.out _ _ (fun _ => ⟨1, rfl⟩) ?_
      clear hS hK hlk
      intro hS
      try simp only [sx, Act.put]
      refine aaQb (i := 4) (by kernel_rfl) rfl (fun K hK => ?_)
      go_simp
      refine (HCL.out _ ⟨1, rfl⟩).mono ?_
      rintro e wl ⟨rfl, hd⟩
      refine hK.out _ _ (fun _ => hd) ?_
      clear hS hK
      intro hS
      try simp only [sx, Act.put]
      have hd := hS (by simp)
      refine aaQb (i := 9) (by kernel_rfl) rfl (fun K hK => ?_)
      go_simp
      refine (HCP.out _ hd).mono ?_
      intro e w7 hp
      cases Y with
      | none =>
        obtain ⟨rfl, hb7⟩ := hp
        have HE : Hid (X = .error 130) := hres.symm
        have HB7 := hQQ hb7
        clear hb7 hres
        refine hK.out _ _ (fun h => by simp at h) ?_
        clear hS hK
        intro hS
        try simp only [sx, Act.put]
        refine aaQa (i := 10) (fun w' => True) (v := (.bool true)) rfl (by kernel_rfl) (by kernel_rfl) (by kernel_rfl) (fun _ _ _ h => h) (fun _ _ _ _ => trivial) (TillP.io (by decide)) (by kernel_rfl) hS (fun w' hSw => ?_) (by kernel_rfl) ?_
        ·go_simp
        clear hS
        intro hS
        try simp only [sx, Act.put]
        refine aaQa (i := 11) (fun w' => True) (v := (.bool true)) rfl (by kernel_rfl) (by kernel_rfl) (by kernel_rfl) (fun _ _ _ h => h) (fun _ _ _ _ => trivial) (TillP.io (by decide)) (by kernel_rfl) hS (fun w' hSw => ?_) (by kernel_rfl) ?_
        ·go_simp
        clear hS
        intro hS
        try simp only [sx, Act.put]
        refine aaQh (by kernel_rfl) ?_ _
        try simp only [sx, Act.put]
        go_wp2_with fail
        try simp only [jumpM]
        go_ret
        show ReadR w0 g X _ _
        rw [HE.out]
        exact ⟨rfl, by decide, HB7.out⟩
      | some S' =>
        obtain ⟨rfl, x', hx', hS7, hM7⟩ := hp
        have HE : Hid (readS k (aaQm rest) (ys.map Sk5.S ++ [S']) = X) := hres
        have hgk := aeQ9 HGK.out HY.out.symm
        have hwt := ajQ0 HLT.out HY.out.symm
        have HA7 : Hid (AccSt w0 w7 g m rest (ys.map Sk5.S ++ [S'])) := ⟨hM7, .inr ⟨b1, pb, cap, ys, x', by rw [hx'], hS7, by rw [hx']; exact hgk, by rw [hx']; have := HWT2.out; have := c3; have : [sd].length = 1 := rfl; omega⟩⟩
        clear hx' hS7 hM7 hgk hwt hres
        refine hK.out _ _ (fun h => by simp at h) ?_
        clear hS hK
        intro hS
        try simp only [sx, Act.put]
        refine aaQa (i := 10) (fun w' => True) (v := (.bool false)) rfl (by kernel_rfl) (by kernel_rfl) (by kernel_rfl) (fun _ _ _ h => h) (fun _ _ _ _ => trivial) (TillP.io (by decide)) (by kernel_rfl) hS (fun w' hSw => ?_) (by kernel_rfl) ?_
        ·go_simp
        clear hS
        intro hS
        try simp only [sx, Act.put]
        refine aaQa (i := 11) (fun w' => True) (v := (.bool false)) rfl (by kernel_rfl) (by kernel_rfl) (by kernel_rfl) (fun _ _ _ h => h) (fun _ _ _ _ => trivial) (TillP.io (by decide)) (by kernel_rfl) hS (fun w' hSw => ?_) (by kernel_rfl) ?_
        ·go_simp
        clear hS
        intro hS
        try simp only [sx, Act.put]
        refine aaQh (by kernel_rfl) ?_ _
        try simp only [sx, Act.put]
        go_wp2_with fail
        refine wp_goto ?_
        change ∃ m', m' < n ∧ ∃ m, JQ w0 g m X 0 m' _ _
        refine ⟨2 * rest.length + 1, by omega, m, rest, (ys.map Sk5.S ++ [S']), k, _, by omega, HA7.out, ⟨_, rfl, rfl, rfl, rfl, rfl⟩, hk2, .inl ⟨rfl, rfl, HE.out⟩⟩
end Go.Proofs.YtdhgiammfpjniaaGreatDoor
