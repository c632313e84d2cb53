/- Parts of the proof. -/
import Derived.Test.YtdhgiammfpjniaaGreatDoorZrbs
import Derived.Test.YtdhgiammfpjniaaGreatDoorZrap
import Derived.Laws.AppendOwnNone
import Derived.Test.YtdhgiammfpjniaaGreatDoorZrac
import Derived.ScopeJumps
namespace Go.Proofs.YtdhgiammfpjniaaGreatDoor
set_option linter.unusedSimpArgs false
set_option linter.unusedVariables false
open Go.RowKit Go.MapKept
theorem aeQv {w wL w' : World} (hL : Below w.heap.size w wL) (hT : Turned [w.heap.size] wL w') : Below w.heap.size w w' :=
 hL.trans (hT.below (fun k hk => by rw [List.mem_singleton.1 hk]; exact Nat.le_refl _) hL.size)
theorem RfM.start {w1 wL : World} {g : Nat} (h : Blk w1 g 71 (rdC (.slice none 0 0) (newX [] [] []) false)) (hb : Below w1.heap.size w1 wL) : RfM wL wL wL.heap.size g wL.heap.size (.slice none 0 0) [] (newX [] [] []) false :=
 ⟨Blk.mono h hb, World.ownsRow_nil _ _ _ _, (fun y hy => by cases hy), ⟨fun i hi => World.ownsRow_nil _ _ _ _, fun i hi => rfl, fun i hi y hy => (by cases hy), fun i hi b hb => (by cases hb), fun i j _ _ _ k hk => (by cases hk), fun b hb => (by cases hb), World.ownsRow_nil _ _ _ _⟩, ⟨rfl, Nat.le_refl _, Nat.le_refl _⟩, Turned.refl _ _⟩
set_option maxHeartbeats 8000000 in
set_option maxRecDepth 1000000 in
theorem ahQz (t : Bs) (w : World) : Calls Tryz.prog 18 #[.string (mkS t)] w (adQj w (acQx t)) := by
 obtain ⟨X, hX⟩ : ∃ X, X = acQx t := ⟨_, rfl⟩
 rw [← hX]
 have HX := hQQ hX
 clear hX
 have hsz : (mkS t).size = t.length := aaQg t
 by_cases hbig : t.length ≤ 40000
 rotate_left
 ·have hI : (40000 : Int) < ((mkS t).size : Int) := by omega
  have HE : Hid (X = .error 132) := by show X = _; rw [HX.out]; exact if_neg hbig
  clear hbig hsz HX
  generalize mkS t = S at *
  go_enter Tryz.func18, Tryz.ntmps18
  go_wp2_with fail
  go_ret2
  show adQj w X _ _
  rw [HE.out]
  exact ⟨rfl, by decide, Below.refl _ _⟩
 have hI : ¬ (40000 : Int) < ((mkS t).size : Int) := by omega
 have HX0 : Hid (X = readS ((aaQm t).length + 1) ((aaQm t).drop 0) []) := by show X = _; rw [HX.out]; exact if_pos hbig
 clear HX
 obtain ⟨w1, hw1⟩ : ∃ w1, w1 = w.alloc (.cells #[.slice none 0 0, .string ⟨#[]⟩, .string ⟨#[]⟩, .string ⟨#[]⟩, .string ⟨#[]⟩, .slice none 0 0, .slice none 0 0, .slice none 0 0, .slice none 0 0, .slice none 0 0, .slice none 0 0, .slice none 0 0, .slice none 0 0, .bool false] 71) := ⟨_, rfl⟩
 have hb1 : Below w.heap.size w w1 := by rw [hw1]; exact (Below.refl _ _).alloc (Nat.le_refl _) _
 have hB1 : Blk w1 w.heap.size 71 (rdC (.slice none 0 0) (newX [] [] []) false) := by rw [hw1]; exact Blk.new _ _ _
 have HB1 := hQQ hb1
 have HBK := hQQ hB1
 have CL := hQQ (arQa t (by omega) w1)
 have HLL : Hid ((aaQm t).length ≤ 40000) := Nat.le_trans (akQ4 t) hbig
 have HLS : Hid (∀ x ∈ aaQm t, x.length ≤ 40000) := fun x hx => Nat.le_trans (akQ3 t x hx) hbig
 clear hbig hb1 hB1 hsz
 generalize aaQm t = ls at *
 go_enter Tryz.func18, Tryz.ntmps18
 go_upto_region 4 with fail
 rw [← hw1]
 clear hw1
 generalize mkS t = S at *
 go_wp2_with fail
 refine CL.out.mono ?_
 rintro e wL ⟨v, rfl, hown, hbL⟩
 obtain ⟨A, c, rfl, hcg1, hcg2⟩ := aaQc hown
 have hgg : w.heap.size < w1.heap.size := HBK.out.lt
 have HG : Hid (∀ k, (Value.slice A ls.length c).ownBlock = some k → k ≠ w.heap.size) := fun k hk e => by
  have := (hown.lt k hk).1
  omega
 have HR := hQQ hown
 have HBL : Hid (Below w.heap.size w wL) := HB1.out.trans (hbL.mono HB1.out.size)
 have HS0 : Hid (StR wL wL wL.heap.size w.heap.size [] 0) := .inl ⟨rfl, _, _, _, RfM.start HBK.out hbL⟩
 have hln := HLL.out
 have HSM := HLS
 clear hown hbL HB1 HBK CL HLL HLS hgg
 go_wp2_with fail
 go_loopg [6] ls.length (fun gk v6 wx => ∃ (i n : Nat) (a : List Sk), i + gk = ls.length ∧ ls.length < i + n ∧ v6 = .int .i64 (i : Int) ∧ Hid (X = readS n (ls.drop i) a) ∧ Hid (StR wL wx wL.heap.size w.heap.size a i))
 case atStart => exact ⟨0, ls.length + 1, [], by omega, by omega, rfl, HX0, HS0⟩
 case round =>
  obtain ⟨i, n, a, hig, hin, rfl, HX, HS⟩ := hrel
  clear HX0 HS0
  by_cases hlt : i < ls.length
  rotate_left
  ·have hltI : ¬ (i : Int) < (ls.length : Int) := by omega
   obtain ⟨n, rfl⟩ : ∃ n', n = n' + 1 := ⟨n - 1, by omega⟩
   have HE : Hid (X = if aaQ4 a = 0 then .ok a else .error (aaQ4 a)) := by show X = _; rw [HX.out, List.drop_eq_nil_of_le (by omega)]; exact agQ7 n a
   obtain ⟨xs, hax, hC⟩ := HS.out.whole
   subst hax
   have CW := hQQ hC
   clear HX HS hC
   go_wp2_with fail
   refine CW.out.mono ?_
   rintro e w3 ⟨rfl, hT, hA⟩
   clear CW
   generalize hz : aaQ4 (xs.map Sk5.S) = z at *
   by_cases h0 : z = 0
   ·subst h0
    have HE2 : Hid (X = .ok (xs.map Sk5.S)) := HE.out.trans (if_pos rfl)
    obtain ⟨v', x, has, hRA⟩ := hA rfl
    have c0 := (Blk.cell hRA.rd 0)
    simp [rdC] at c0
    obtain ⟨A2, c2, hv, _, _⟩ := aaQc hRA.row
    subst hv
    have HRA := hQQ hRA
    clear hRA hA hT HE hz
    go_wp2_with fail
    go_ret2
    show adQj w X _ _
    rw [HE2.out]
    exact ⟨_, xs, rfl, rfl, aqQ1 HRA.out.row HBL.out.size, HRA.out.old, aeQv HBL.out HRA.out.bel⟩
   ·have hz0 : (z == 0) = false := by simp [h0]
    have hz1 : (z != 0) = true := by simp [h0]
    have HZ := hQQ h0
    have HE2 : Hid (X = .error z) := HE.out.trans (if_neg h0)
    have HTD := hQQ hT
    clear hA hT HE hz h0
    go_wp2_with fail
    go_ret2
    show adQj w X _ _
    rw [HE2.out]
    exact ⟨rfl, HZ.out, aeQv HBL.out HTD.out⟩
  have hltI : (i : Int) < (ls.length : Int) := by omega
  have hi0 : (0 : Int) ≤ (i : Int) := by omega
  by_cases hn0 : n = 0
  ·exfalso
   rw [hn0] at hin
   omega
  obtain ⟨n, rfl⟩ : ∃ n', n = n' + 1 := ⟨n - 1, by omega⟩
  clear hn0
  obtain ⟨l, hl⟩ : ∃ l, ls[i]? = some l := ⟨_, List.getElem?_eq_getElem hlt⟩
  have hdr : ls.drop i = l :: ls.drop (i + 1) := by
   have h1 := (List.getElem?_eq_some_iff.1 hl).2
   rw [← h1]
   exact List.drop_eq_getElem_cons hlt
  have hR2 := aaQf HR.out HS.out.bel (fun k hk hm => HG.out k hk (by simpa using hm))
  obtain ⟨b, hA, hcell⟩ := acQ7 hR2 (k := i) (u := .string (mkS l)) (by rw [List.getElem?_map, hl]; rfl)
  clear hR2
  subst hA
  have hls := HSM.out l (List.mem_of_getElem? hl)
  have HX1 : Hid (X = readS (n + 1) (l :: ls.drop (i + 1)) a) := by show X = _; rw [HX.out, hdr]
  clear HX hdr hl
  have HDT : Hid ((mkS (dTrim l)).toList.isEmpty = isLay l) := abQb (dTrim l)
  have CT : Hid (∀ wx, Calls Tryz.prog 20 #[.string (mkS l)] wx fun e w' => e = .returned (.string (mkS (dTrim l))) ∧ wx = w') := fun wx => acQu l (by omega) wx
  have CG := hQQ (ahQ7 l (by omega))
  have HV : Hid (∀ h : 0 < (mkS l).size, (mkS l)[0]'h = l.headD 0) := fun h => by
   have := aaQw h
   rw [aaQn] at this
   have h2 : 0 < l.length := by have := aaQg l; omega
   rw [List.getElem?_eq_getElem h2] at this
   injection this with this
   rw [← this]
   cases l with
   | nil => cases h2
   | cons c r => rfl
  have hSz : (mkS l).size = l.length := aaQg l
  obtain ⟨DT, hDT⟩ : ∃ DT, DT = mkS (dTrim l) := ⟨_, rfl⟩
  rw [← hDT] at HDT CT
  clear hDT
  obtain ⟨S0, hS0⟩ : ∃ S0, S0 = mkS l := ⟨_, rfl⟩
  rw [← hS0] at CT CG HV hcell hSz
  clear hS0
  by_cases hlay : isLay l = true
  ·have hq : DT.toList.isEmpty = true := HDT.out.trans hlay
   have HN : Hid (X = readS n (ls.drop (i + 1)) a) := HX1.out.trans (akQp (.inl hlay))
   have HS1 := hQQ HS.out.more
   clear HX1 hlay HS HDT CG HV
   go_wp2_with fail
   refine (CT.out _).mono ?_
   rintro e wz ⟨rfl, rfl⟩
   clear CT
   go_wp2_with fail
   go_roundg (gk - 1)
   case measure => omega
   case rel => exact ⟨i + 1, n, a, by omega, by omega, by go_num, HN, HS1⟩
  have hq : DT.toList.isEmpty = false := HDT.out.trans (Bool.eq_false_iff.2 hlay)
  have hl0 : 0 < l.length := by
   cases l with
   | nil => exact absurd rfl hlay
   | cons c r => simp
  have h0 : 0 < S0.size := by omega
  have h0I : (0 : Int) < (S0.size : Int) := by omega
  have HBt := hQQ (HV.out h0)
  clear HV HDT
  by_cases h35 : S0[0]'h0 = 35
  ·have t35 : (((S0[0]'h0).toNat : Int) == 35) = true := by rw [h35]; rfl
   have HN : Hid (X = readS n (ls.drop (i + 1)) a) := HX1.out.trans (akQp (.inr (by rw [← HBt.out, h35])))
   have HS1 := hQQ HS.out.more
   clear HX1 hlay HS CG HBt h35
   go_wp2_with fail
   refine (CT.out _).mono ?_
   rintro e wz ⟨rfl, rfl⟩
   clear CT
   go_wp2_with fail
   go_roundg (gk - 1)
   case measure => omega
   case rel => exact ⟨i + 1, n, a, by omega, by omega, by go_num, HN, HS1⟩
  have t35 : (((S0[0]'h0).toNat : Int) == 35) = false := beq_eq_false_iff_ne.2 fun e => h35 (UInt8.toNat_inj.1 (by show _ = 35; omega))
  have HXS := hQQ (HX1.out.trans (aqQi (fun e => e.elim hlay fun e => h35 (by rw [HBt.out, e]))))
  have H35 := hQQ h35
  clear HX1 hlay h35
  go_wp2_with fail
  refine (CT.out _).mono ?_
  rintro e wz ⟨rfl, rfl⟩
  clear CT
  go_wp2_with fail
  refine (CG.out _).mono ?_
  rintro e w2 ⟨rfl, hb2⟩
  have HS2 := hQQ (HS.out.below hb2)
  clear hb2 CG HS
  have HS := hQQ HS2.out
  clear HS2
  have HTD := hQQ HS.out.bel
  obtain ⟨Q, hQ⟩ : ∃ Q, Q = tagX l := ⟨_, rfl⟩
  have HQl : Hid (Q.2.1.length ≤ 40000) := by
   show _ ≤ _
   rw [hQ]
   exact Nat.le_trans (ajQ6 l) hls
  have HQw : Hid (Q.2.2 = true → TagW Q.1) := by
   show _ → _
   rw [hQ]
   exact tagX_ok
  have hXs := HXS.out
  clear HXS
  unfold stepR at hXs
  rw [← hQ] at hXs ⊢
  clear hQ
  obtain ⟨t, rest, ok⟩ := Q
  dsimp only at hXs HQl HQw ⊢
  cases ok with
  | false =>
    have HE : Hid (X = .error 130) := by show X = _; rw [hXs]; exact if_pos (.inl rfl)
    clear hXs HQl HQw HS HBt H35
    go_wp2_with fail
    go_ret2
    show adQj w X _ _
    rw [HE.out]
    exact ⟨rfl, by decide, aeQv HBL.out HTD.out⟩
  | true =>
    have HTG : Hid (TagW t) := HQw.out rfl
    clear HQw
    by_cases h61 : S0[0]'h0 = 61
    ·have t61 : (((S0[0]'h0).toNat : Int) == 61) = true := by rw [h61]; rfl
     have u61 : (((S0[0]'h0).toNat : Int) != 61) = false := by rw [h61]; rfl
     have t43 : (((S0[0]'h0).toNat : Int) == 43) = false := by rw [h61]; rfl
     have u43 : (((S0[0]'h0).toNat : Int) != 43) = true := by rw [h61]; rfl
     have hd61 : l.headD 0 = 61 := by rw [← HBt.out, h61]
     have HXE : Hid (X = match oneSX a t (aaQ2 rest) with
      | .error e => .error e
      | .ok a => readS n (ls.drop (i + 1)) a) := by
      show X = _
      rw [hXs, if_neg (by rw [hd61]; exact fun e => e.elim (fun e => by cases e) fun e => e.elim (fun e => e.1 rfl) fun e => absurd e.1 (by decide)), if_pos hd61]
      cases oneSX a t (aaQ2 rest) <;> rfl
     have CO := hQQ (aoQx HS.out (by omega) t rest HQl.out)
     clear hXs HBt H35 h61 hd61 HS HQl
     go_wp2_with fail
     refine CO.out.mono ?_
     intro e w3 hO
     clear CO
     cases hP : oneSX a t (aaQ2 rest) with
     | error k =>
       rw [hP] at hO
       obtain ⟨rfl, hk, hT⟩ := hO
       have hk0 : (k == 0) = false := by simp [hk]
       have hk1 : (k != 0) = true := by simp [hk]
       have HK := hQQ hk
       have HTD3 := hQQ hT
       have HE : Hid (X = .error k) := by show X = _; rw [HXE.out, hP]
       clear hT hk HXE hP HTD
       go_wp2_with fail
       go_ret2
       show adQj w X _ _
       rw [HE.out]
       exact ⟨rfl, HK.out, aeQv HBL.out HTD3.out⟩
     | ok a' =>
       rw [hP] at hO
       obtain ⟨rfl, hS'⟩ := hO
       have HS1 := hQQ hS'
       have HN : Hid (X = readS n (ls.drop (i + 1)) a') := by show X = _; rw [HXE.out, hP]
       clear hS' HXE hP HTD
       go_wp2_with fail
       go_roundg (gk - 1)
       case measure => omega
       case rel => exact ⟨i + 1, n, a', by omega, by omega, by go_num, HN, HS1⟩
    ·have t61 : (((S0[0]'h0).toNat : Int) == 61) = false := beq_eq_false_iff_ne.2 fun e => h61 (UInt8.toNat_inj.1 (by show _ = 61; omega))
     have u61 : (((S0[0]'h0).toNat : Int) != 61) = true := by rw [bne, t61]; rfl
     have hn61 : l.headD 0 ≠ 61 := fun e => h61 (by rw [HBt.out, e])
     by_cases h43 : S0[0]'h0 = 43
     rotate_left
     ·have t43 : (((S0[0]'h0).toNat : Int) == 43) = false := beq_eq_false_iff_ne.2 fun e => h43 (UInt8.toNat_inj.1 (by show _ = 43; omega))
      have u43 : (((S0[0]'h0).toNat : Int) != 43) = true := by rw [bne, t43]; rfl
      have HE : Hid (X = .error 130) := by show X = _; rw [hXs]; exact if_pos (.inr (.inl ⟨hn61, fun e => h43 (by rw [HBt.out, e])⟩))
      clear hXs HQl HS HBt H35 h61 hn61 h43
      go_wp2_with fail
      go_ret2
      show adQj w X _ _
      rw [HE.out]
      exact ⟨rfl, by decide, aeQv HBL.out HTD.out⟩
     have t43 : (((S0[0]'h0).toNat : Int) == 43) = true := by rw [h43]; rfl
     have u43 : (((S0[0]'h0).toNat : Int) != 43) = false := by rw [h43]; rfl
     have hd43 : l.headD 0 = 43 := by rw [← HBt.out, h43]
     have CR : Hid (∀ wx, Calls Tryz.prog 20 #[.string (mkS rest)] wx fun e w' => e = .returned (.string (mkS (dTrim rest))) ∧ wx = w') := fun wx => acQu rest (by have := HQl.out; omega) wx
     have HRT := hQQ (abQb (dTrim rest))
     by_cases hlr : isLay rest = true
     rotate_left
     ·have q2 : (mkS (dTrim rest)).toList.isEmpty = false := HRT.out.trans (Bool.eq_false_iff.2 hlr)
      have HE : Hid (X = .error 130) := by show X = _; rw [hXs]; exact if_pos (.inr (.inr ⟨hd43, Bool.eq_false_iff.2 hlr⟩))
      clear hXs HQl HS HBt H35 h61 hn61 h43 hd43 hlr HRT
      generalize mkS (dTrim rest) = DR at *
      go_wp2_with fail
      refine (CR.out _).mono ?_
      rintro e wz ⟨rfl, rfl⟩
      clear CR
      go_wp2_with fail
      go_ret2
      show adQj w X _ _
      rw [HE.out]
      exact ⟨rfl, by decide, aeQv HBL.out HTD.out⟩
     have q2 : (mkS (dTrim rest)).toList.isEmpty = true := HRT.out.trans hlr
     have HXE : Hid (X = if a = [] then .error 130 else match blkR t (ls.drop (i + 1)) a with
      | none => .error 130
      | some x => readS n x.2 x.1) := by
      show X = _
      rw [hXs, if_neg (by rw [hd43, hlr]; exact fun e => e.elim (fun e => by cases e) fun e => e.elim (fun e => e.2 rfl) fun e => absurd e.2 (by simp)), if_neg hn61]
      by_cases ha : a = []
      ·rw [if_pos ha, if_pos ha]
      ·rw [if_neg ha, if_neg ha]
       cases blkR t (ls.drop (i + 1)) a <;> rfl
     have CB := hQQ (akQo HS.out.more HR HG hln HSM (by omega) t HTG)
     have HXF : Hid (X = match (if a = [] then none else blkR t (ls.drop (i + 1)) a) with
      | none => .error 130
      | some x => readS n x.2 x.1) := by
      show X = _
      rw [HXE.out]
      by_cases ha : a = []
      ·rw [if_pos ha, if_pos ha]
      ·rw [if_neg ha, if_neg ha]
     clear hXs HQl HS HBt H35 h61 hn61 h43 hd43 hlr HRT HXE HTG
     generalize mkS (dTrim rest) = DR at *
     go_wp2_with fail
     refine (CR.out _).mono ?_
     rintro e wz ⟨rfl, rfl⟩
     clear CR
     go_wp2_with fail
     refine CB.out.mono ?_
     intro e w3 hO
     clear CB
     cases hP : (if a = [] then none else blkR t (ls.drop (i + 1)) a) with
     | none =>
       rw [hP] at hO
       obtain ⟨rfl, hT⟩ := hO
       have HTD3 := hQQ hT
       have HE : Hid (X = .error 130) := by show X = _; rw [HXF.out, hP]
       clear hT HXF hP HTD
       go_wp2_with fail
       go_ret2
       show adQj w X _ _
       rw [HE.out]
       exact ⟨rfl, by decide, aeQv HBL.out HTD3.out⟩
     | some x =>
       obtain ⟨a', ls'⟩ := x
       rw [hP] at hO
       obtain ⟨k, rfl, hk1, hk2, hk3, hS'⟩ := hO
       dsimp only at hk1 hS'
       have HS1 := hQQ hS'
       have HN : Hid (X = readS n (ls.drop k) a') := by show X = _; rw [HXF.out, hP]; dsimp only; rw [hk1]
       clear hS' HXF hP HTD hk1
       go_wp2_with fail
       go_roundg (ls.length - k)
       case measure => omega
       case rel => exact ⟨k, n, a', by omega, by omega, rfl, HN, HS1⟩
structure SuW (w : World) : Prop where
 tabs : Ev.Tabs w
 max : MaxAt w
theorem SuW.below {w w' : World} (h : SuW w) (hb : Below w.heap.size w w') : SuW w' := ⟨h.tabs.below hb h.tabs.two, h.max.below hb⟩
def arQ9 : Prop := ∀ W, SuW W → Calls Tryz.prog 16 #[] W fun e w' => e = .returned (.bool true) ∧ Below W.heap.size W w'
set_option maxHeartbeats 8000000 in
set_option maxRecDepth 1000000 in
theorem alQ4 (hR : anQ9) (hAw : arQ9) (t : Bs) (W : World) (hE : SuW W) :
 Calls Tryz.prog 7 #[.string (mkS t)] W fun e w' => e = .returned (.bool true) ∧ Below W.heap.size W w' := by
 have C0 := hQQ (hAw W hE)
 have C1 := hQQ (fun wx (hb : Below W.heap.size W wx) => aeQp hR t wx (hE.below hb).tabs (hE.below hb).max)
 have C2 := hQQ (ahQz t)
 have hR1 := fun a => aoQ9 (t := t) (b := a)
 have hW1 := fun a => akQv (t := t) (b := a)
 clear hE hR hAw
 generalize acQx t = R at *
 generalize mkS t = S1 at *
 go_enter Tryz.func7, Tryz.ntmps7
 go_wp2_with fail
 refine C0.out.mono ?_
 rintro e w1 ⟨rfl, hb1⟩
 have C1w := hQQ (C1.out w1 hb1)
 have HB1 := hQQ hb1
 clear hb1 C0 C1
 go_wp2_with fail
 refine C1w.out.mono ?_
 cases R with
 | error n =>
   rintro e w2 ⟨rfl, -, hb⟩
   have HB2 := hQQ (HB1.out.trans (hb.mono HB1.out.size))
   clear hb C1w HB1 hR1 hW1
   go_wp2_with fail
   refine (C2.out w2).mono ?_
   rintro e w3 ⟨rfl, -, hb⟩
   have HB3 := hQQ (HB2.out.trans (hb.mono HB2.out.size))
   have hnil : Ev.PksAt w3 [] none := fun k p hk => by cases hk
   have CS := hQQ (Ev.same_any [] none none 0 0 0 w3 rfl hnil hnil (by omega))
   clear hb C2 HB2 hnil
   go_wp2_with fail
   refine CS.out.mono ?_
   rintro e w4 ⟨rfl, hb⟩
   have HB4 := hQQ (HB3.out.trans (hb.mono HB3.out.size))
   clear hb CS HB3
   go_wp2_with fail
   go_ret
   exact ⟨by simp, HB4.out⟩
 | ok a =>
   have hla := hR1 a rfl
   have hwa := hW1 a rfl
   clear hR1 hW1
   rintro e w2 ⟨va, xs, rfl, hxm, hPx⟩
   obtain ⟨Ax, kx, rfl, -, -⟩ := aaQc hPx.row
   have hlx : xs.length ≤ 200 := by rw [← hxm, List.length_map] at hla; exact hla
   have HPx := hQQ hPx
   have HX := hQQ hxm
   have HB2 := hQQ (HB1.out.trans (hPx.bel.mono HB1.out.size))
   have HW := hQQ hwa
   clear hPx C1w HB1 hxm hwa hla
   go_wp2_with fail
   refine (C2.out w2).mono ?_
   rintro e w3 ⟨vb, ys, rfl, hym, hPy⟩
   obtain ⟨Ay, ky, rfl, -, -⟩ := aaQc hPy.row
   have HB3 := hQQ (HB2.out.trans (hPy.bel.mono HB2.out.size))
   have hly : ys.length = xs.length := by
    have h1 := congrArg List.length (hym.trans HX.out.symm)
    simpa using h1
   have e1 : xs.map (fun x => pkgS x.S) = ys.map (fun x => pkgS x.S) := by
    have h1 := congrArg (List.map pkgS) (HX.out.trans hym.symm)
    rw [List.map_map, List.map_map] at h1
    exact h1
   have p1 : Ev.PksAt w3 (xs.map fun x => pkgS x.S) Ax := (HPx.out.pks fun x hx => HW.out _ (by rw [← HX.out]; exact List.mem_map_of_mem hx)).below hPy.bel
   have p2 : Ev.PksAt w3 (xs.map fun x => pkgS x.S) Ay := by
    rw [e1]
    exact hPy.pks fun x hx => HW.out _ (by rw [← hym]; exact List.mem_map_of_mem hx)
   rw [hly]
   have CS := hQQ (Ev.same_any _ Ax Ay xs.length kx ky w3 (List.length_map _) p1 p2 (by omega))
   clear p1 p2 e1 hym hPy C2 HB2 HX HPx HW hly hlx
   generalize xs.length = nx at *
   go_wp2_with fail
   refine CS.out.mono ?_
   rintro e w4 ⟨rfl, hb⟩
   have HB4 := hQQ (HB3.out.trans (hb.mono HB3.out.size))
   clear hb CS HB3
   go_wp2_with fail
   go_ret
   exact ⟨by simp, HB4.out⟩
def suT1 : Bs := [61, 80, 107, 103, 58, 32, 97, 32, 49, 32, 50, 32, 110, 111, 97, 114, 99, 104, 10, 61, 82, 101, 113, 58, 32, 98, 32, 62, 61, 32, 51, 10, 43, 80, 114, 118, 58, 10, 120, 10, 121, 32, 61, 32, 49, 10, 45, 80, 114, 118, 58, 10]
def suT2 : Bs := [120, 10]
def suChk : Bool := match acQx suT1 with
 | .ok [S] => decide (S.T 1 = [49, 45, 50]) && (decide ((S.D 1).length = 1) && decide ((S.D 0).length = 2))
 | _ => false
set_option maxRecDepth 1000000 in
theorem suChk_is : suChk = true := by kernel_rfl
set_option maxRecDepth 1000000 in
theorem su2_is : acQx suT2 = .error 130 := by kernel_rfl
theorem su1_is : ∃ S, acQx suT1 = .ok [S] ∧ S.T 1 = [49, 45, 50] ∧ (S.D 1).length = 1 ∧ (S.D 0).length = 2 := by
 have h := suChk_is
 unfold suChk at h
 generalize acQx suT1 = R at *
 match R, h with
 | .ok [S], h =>
   have h : (decide (S.T 1 = [49, 45, 50]) && (decide ((S.D 1).length = 1) && decide ((S.D 0).length = 2))) = true := h
   rw [Bool.and_eq_true, Bool.and_eq_true] at h
   exact ⟨S, rfl, of_decide_eq_true h.1, of_decide_eq_true h.2.1, of_decide_eq_true h.2.2⟩
set_option maxHeartbeats 8000000 in
set_option maxRecDepth 1000000 in
theorem alQ5 (hR : anQ9) : arQ9 := by
 intro W hE
 obtain ⟨S, hS, hT, hD1, hD0⟩ := su1_is
 have C1 := hQQ (fun (s : ByteArray) (h : s = mkS suT1) => (h.symm ▸ aeQp hR suT1 W hE.tabs hE.max : Calls Tryz.prog 17 #[.string s] W (adQj W (acQx suT1))))
 have C2 := hQQ (fun (s : ByteArray) (h : s = mkS suT2) w' (hb : Below W.heap.size W w') => (h.symm ▸ aeQp hR suT2 w' (hE.below hb).tabs (hE.below hb).max : Calls Tryz.prog 17 #[.string s] w' (adQj w' (acQx suT2))))
 rw [hS] at C1
 rw [su2_is] at C2
 have HT := hQQ hT
 have HD1 := hQQ hD1
 have HD0 := hQQ hD0
 clear hE hS hT hD1 hD0 hR
 go_enter Tryz.func16, Tryz.ntmps16
 go_wp2_with fail
 refine (C1.out _ (by kernel_rfl)).mono ?_
 rintro e w1 ⟨v, xs, rfl, hxs, hP⟩
 have hx : ∃ x, xs = [x] ∧ x.S = S := by
  match xs, hxs with
  | [x], h =>
    injection h with h _
    exact ⟨x, rfl, h⟩
 obtain ⟨x, rfl, hxS⟩ := hx
 obtain ⟨A, m, rfl, hm1, hm2⟩ := aaQc hP.row
 have HP := hQQ hP
 have HXS := hQQ hxS
 have HB1 := hQQ hP.bel
 have hlen : List.length [x] = 1 := rfl
 rw [hlen] at hm1 ⊢
 clear hP hxs hxS hlen C1
 go_wp2_with fail
 refine (C2.out _ (by kernel_rfl) w1 HB1.out).mono ?_
 rintro e w2 ⟨rfl, -, hb2⟩
 have hP := HP.out.below hb2
 have hrow : w2.ownsRow W.heap.size 37 12 (.slice A 1 m) 1 x.row := by
  have h := hP.row
  have e : rowsK [x] = x.row := List.append_nil _
  rw [e] at h
  exact h
 have hV := hP.old x (by simp)
 have hl1 : (x.rs 1).length = 1 := by
  have h := congrArg List.length (hV.is 1 (by omega))
  rw [List.length_map, HXS.out, HD1.out] at h
  exact h
 have hl0 : (x.rs 0).length = 2 := by
  have h := congrArg List.length (hV.is 0 (by omega))
  rw [List.length_map, HXS.out, HD0.out] at h
  exact h
 obtain ⟨A1, m1, hv1, hn1, hq1⟩ := aaQc (hV.own 1 (by omega))
 obtain ⟨A0, m0, hv0, hn0, hq0⟩ := aaQc (hV.own 0 (by omega))
 rw [hl1] at hv1 hn1
 rw [hl0] at hv0 hn0
 obtain ⟨b, rfl, p1⟩ := abQl hrow (k := 1) (u := .string (mkS (x.S.T 1))) rfl
 obtain ⟨b', e', p5⟩ := abQl hrow (k := 5) (u := x.ss 1) rfl
 injection e' with e'
 injection e' with e'
 subst e'
 obtain ⟨b', e', p4⟩ := abQl hrow (k := 4) (u := x.ss 0) rfl
 injection e' with e'
 injection e' with e'
 subst e'
 rw [hv1] at p5
 rw [hv0] at p4
 rw [HXS.out, HT.out, show mkS [49, 45, 50] = ⟨#[49, 45, 50]⟩ from rfl] at p1
 have HB2 := hQQ (HB1.out.trans (hb2.mono HB1.out.size))
 have s1 : ((⟨#[49, 45, 50]⟩ : ByteArray).toList == ([49, 45, 50] : List UInt8)) = true := by decide +kernel
 unfold maxLen at hm2 hq1 hq0
 clear hb2 hP hrow hV hl1 hl0 hv1 hv0 HP HXS HT HD1 HD0 C2 HB1
 go_wp2_with fail
 go_ret
 exact ⟨rfl, HB2.out⟩
end Go.Proofs.YtdhgiammfpjniaaGreatDoor

namespace Go.Proofs.YtdhgiammfpjniaaGreatDoor
set_option linter.unusedSimpArgs false
set_option linter.unusedVariables false
open Go
def jumpM (R : Nat → Act → World → Prop) (Q : Exit → Act → World → Prop) : Exit → Act → World → Prop
 | .goto l, a, w => R l a w
 | e, a, w => Q e a w
theorem aiQt {P : Program} {a : Act} {w : World} {Q : Exit → Act → World → Prop} {c : Code} (rest : Nat → Code) (J : Nat → Nat → Act → World → Prop)
 (hf : ∀ l n a w, J l n a w → findLabel c l = some (rest l))
 (pass : ∀ l n a w, J l n a w → (rest l).wp P (jumpM (fun l' a' w' => ∃ m, m < n ∧ J l' m a' w') Q) a w)
 (first : c.wp P (jumpM (fun l' a' w' => ∃ m, J l' m a' w') Q) a w) : (Code.scope c).wp P Q a w := by
 intro b k cs
 have hg : ∀ l, findLabel c l = some (rest l) → gotoIn l (.inScope c :: k) = some (.code (rest l) :: .inScope c :: k) := fun l h => by simp [gotoIn, h]
 have key : ∀ n l a w, J l n a w → ∃ e a' w', Q e a' w' ∧ Arrives P (lone (b.at a (.code (rest l) :: .inScope c :: k)) cs w) b k cs e a' w' := by
  intro n
  induction n using Nat.strongRecOn with
  | _ n ih =>
    intro l a w hJ
    obtain ⟨e, a₁, w₁, hq, harr⟩ := pass l n a w hJ b (.inScope c :: k) cs
    cases e with
    | normal => exact ⟨.normal, a₁, w₁, hq, Steps.trans harr (.one step_inScope)⟩
    | exit id => exact ⟨.exit id, a₁, w₁, hq, fun k' hk => harr k' (by simp [exitTo, hk])⟩
    | goto l' =>
      obtain ⟨m, hm, hJ'⟩ := hq
      obtain ⟨e₂, a₂, w₂, hq₂, harr₂⟩ := ih m hm l' a₁ w₁ hJ'
      exact ⟨e₂, a₂, w₂, hq₂, .of_steps (harr _ (hg l' (hf _ _ _ _ hJ'))) harr₂⟩
    | ret => exact ⟨_, a₁, w₁, hq, harr⟩
    | panic ch => exact ⟨_, a₁, w₁, hq, harr⟩
    | outgrown => exact ⟨_, a₁, w₁, hq, harr⟩
 obtain ⟨e, a₁, w₁, hq, harr⟩ := first b (.inScope c :: k) cs
 cases e with
 | normal => exact ⟨.normal, a₁, w₁, hq, .head step_scope (Steps.trans harr (.one step_inScope))⟩
 | exit id => exact ⟨.exit id, a₁, w₁, hq, fun k' hk => .head step_scope (harr k' (by simp [exitTo, hk]))⟩
 | goto l' =>
   obtain ⟨m, hJ'⟩ := hq
   obtain ⟨e₂, a₂, w₂, hq₂, harr₂⟩ := key m l' a₁ w₁ hJ'
   exact ⟨e₂, a₂, w₂, hq₂, .of_steps (.head step_scope (harr _ (hg l' (hf _ _ _ _ hJ')))) harr₂⟩
 | ret => exact ⟨_, a₁, w₁, hq, .of_steps (.one step_scope) harr⟩
 | panic ch => exact ⟨_, a₁, w₁, hq, .of_steps (.one step_scope) harr⟩
 | outgrown => exact ⟨_, a₁, w₁, hq, .of_steps (.one step_scope) harr⟩
theorem aoQd {P : Program} {a : Act} {w : World} {Q : Exit → Act → World → Prop} {c r0 r1 : Code} (J : Nat → Nat → Act → World → Prop) (h0 : findLabel c 0 = some (Code.skip.seq r0)) (h1 : findLabel c 1 = some (Code.skip.seq r1))
 (hJ : ∀ l n a w, J l n a w → l < 2)
 (p0 : ∀ n a w, J 0 n a w → r0.wp P (jumpM (fun l' a' w' => ∃ m, m < n ∧ J l' m a' w') Q) a w)
 (p1 : ∀ n a w, J 1 n a w → r1.wp P (jumpM (fun l' a' w' => ∃ m, m < n ∧ J l' m a' w') Q) a w)
 (first : (∀ n a w, J 0 n a w → r0.wp P (jumpM (fun l' a' w' => ∃ m, J l' m a' w') Q) a w) → c.wp P (jumpM (fun l' a' w' => ∃ m, J l' m a' w') Q) a w) : (Code.scope c).wp P Q a w := by
 refine aiQt (fun l => match l with | 0 => Code.skip.seq r0 | _ => Code.skip.seq r1) J (fun l n a w h => ?_) (fun l n a w h => ?_) (first fun n a w h => ?_)
 ·have := hJ _ _ _ _ h
  match l, this with
  | 0, _ => exact h0
  | 1, _ => exact h1
 ·have := hJ _ _ _ _ h
  match l, this with
  | 0, _ => exact wp_seq (wp_skip (p0 n a w h))
  | 1, _ => exact wp_seq (wp_skip (p1 n a w h))
 ·refine Code.wp_mono (fun e a' w' he => ?_) (p0 n a w h)
  cases e <;> first | exact he | (obtain ⟨m, _, h⟩ := he; exact ⟨m, h⟩)
end Go.Proofs.YtdhgiammfpjniaaGreatDoor
