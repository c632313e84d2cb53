/- Parts of the proof. -/
import Derived.Test.YtdhgiammfpjniaaGreatDoorZrbr
import Derived.Test.YtdhgiammfpjniaaGreatDoorZrbo
import Derived.Test.YtdhgiammfpjniaaGreatDoorZrbm
import Derived.Test.YtdhgiammfpjniaaGreatDoorZrao
import Derived.Test.YtdhgiammfpjniaaGreatDoorZrap
namespace Go.Proofs.YtdhgiammfpjniaaGreatDoor
set_option linter.unusedSimpArgs false
set_option linter.unusedVariables false
open Go.RowKit Go.MapKept
theorem ajQ7 (l : Bs) : ∀ n i, (tagR l n i).2.1.length ≤ l.length
 | 0, i => Nat.zero_le _
 | n + 1, i => by
   show (if l.length ≤ i then (([], [], false) : Bs × Bs × Bool) else if l[i]? = some 32 ∨ l[i]? = some 9 then ([], [], false) else if l[i]? = some 58 then ((l.drop 1).take (i - 1), l.drop (i + 1), decide (1 < i)) else tagR l n (i + 1)).2.1.length ≤ _
   split
   ·exact Nat.zero_le _
   ·split
    ·exact Nat.zero_le _
    ·split
     ·show (l.drop (i + 1)).length ≤ _
      rw [List.length_drop]; omega
     ·exact ajQ7 l n (i + 1)
theorem ajQ6 (l : Bs) : (tagX l).2.1.length ≤ l.length := ajQ7 l _ _
def BlkP (w0 : World) (B g i : Nat) (ls : List Bs) (X : Option (List Sk × List Bs)) (e : Ending) (w' : World) : Prop := match X with
 | none => e = .returned (.tuple #[.int .i64 0, .int .i64 130]) ∧ Turned [g] w0 w'
 | some x => ∃ j : Nat, e = .returned (.tuple #[.int .i64 (j : Int), .int .i64 0]) ∧ x.2 = ls.drop j ∧ i ≤ j ∧ j ≤ ls.length ∧ StR w0 w' B g x.1 j
set_option maxHeartbeats 4000000 in
set_option maxRecDepth 1000000 in
theorem akQo {w0 w : World} {B g : Nat} {acc : List Sk} {i : Nat} (h : StR w0 w B g acc i) {BL c : Nat} {A : Option Addr} {ls : List Bs} (HR : Hid (w0.ownsRow BL 9 1 (.slice A ls.length c) ls.length (ls.map fun p => Value.string (mkS p)))) (HG : Hid (∀ k, (Value.slice A ls.length c).ownBlock = some k → k ≠ g)) (hln : ls.length ≤ 40000) (HSM : Hid (∀ l ∈ ls, l.length ≤ 40000)) (hi : i ≤ ls.length) (t : Bs) (HTG : Hid (TagW t)) :
 Calls Tryz.prog 38 #[.pointer (some ⟨g, 0, none⟩), .slice A ls.length c, .int .i64 (i : Int), .string (mkS t)] w (BlkP w0 B g i ls (if acc = [] then none else blkR t (ls.drop i) acc)) := by
 have hh := h.has
 obtain ⟨X, hX⟩ : ∃ X, X = if acc = [] then none else blkR t (ls.drop i) acc := ⟨_, rfl⟩
 rw [← hX]
 by_cases ha : acc = []
 ·have HE : Hid (X = none) := hX.trans (if_pos ha)
  rw [ha] at hh
  have hh2 : w.cell? ⟨g, 13, none⟩ = some (.bool false) := hh
  have HT := hQQ h.bel
  clear hh h HR HG HSM HTG hX ha
  go_enter Tryz.func38, Tryz.ntmps38
  go_wp2_with fail
  go_ret2
  show BlkP _ _ _ _ _ X _ _
  rw [HE.out]
  exact ⟨rfl, HT.out⟩
 have HX0 : Hid (X = blkR t (ls.drop i) acc) := hX.trans (if_neg ha)
 have hh2 : w.cell? ⟨g, 13, none⟩ = some (.bool true) := by
  rw [hh]
  cases acc with
  | nil => exact absurd rfl ha
  | cons a r => rfl
 have HS0 := hQQ h
 have HA0 : Hid (acc ≠ []) := ha
 clear hh h hX ha
 go_enter Tryz.func38, Tryz.ntmps38
 go_wp2_with fail
 go_loopg [2] (ls.length - i) (fun gk v2 wx => ∃ (j : Nat) (a : List Sk), j + gk = ls.length ∧ i ≤ j ∧ v2 = .int .i64 (j : Int) ∧ Hid (a ≠ []) ∧ Hid (X = blkR t (ls.drop j) a) ∧ Hid (StR w0 wx B g a j))
 case atStart => exact ⟨i, acc, by omega, Nat.le_refl _, rfl, HA0, HX0, HS0⟩
 case round =>
  obtain ⟨j, a, hjg, hij, rfl, ha, HX, HS⟩ := hrel
  clear HX0 HS0 HA0 hh2
  by_cases hlt : j < ls.length
  rotate_left
  ·have hltI : ¬ (j : Int) < (ls.length : Int) := by omega
   have HE : Hid (X = none) := by show X = _; rw [HX.out, List.drop_eq_nil_of_le (by omega)]; rfl
   have HT := hQQ HS.out.bel
   clear HX HS
   go_wp2_with fail
   go_ret2
   show BlkP _ _ _ _ _ X _ _
   rw [HE.out]
   exact ⟨rfl, HT.out⟩
  have hltI : (j : Int) < (ls.length : Int) := by omega
  have hj0 : (0 : Int) ≤ (j : Int) := by omega
  obtain ⟨l, hl⟩ : ∃ l, ls[j]? = some l := ⟨_, List.getElem?_eq_getElem hlt⟩
  have hdr : ls.drop j = l :: ls.drop (j + 1) := by
   have h1 := (List.getElem?_eq_some_iff.1 hl).2
   rw [← h1]
   exact List.drop_eq_getElem_cons hlt
  have hR2 := aaQf HR.out HS.out.bel (fun k hk hm => HG.out k hk (by simpa using hm))
  obtain ⟨b, hA, hcell⟩ := acQ7 hR2 (k := j) (u := .string (mkS l)) (by rw [List.getElem?_map, hl]; rfl)
  clear hR2
  subst hA
  have hls := HSM.out l (List.mem_of_getElem? hl)
  have HXS : Hid (X = if endB t l = true then some (a, ls.drop (j + 1)) else if isLay l = true then blkR t (ls.drop (j + 1)) a else match lastT t [l] a with
   | some a => blkR t (ls.drop (j + 1)) a
   | none => none) := by show X = _; rw [HX.out, hdr]; rfl
  clear HX hdr hl
  have hes := end_same HTG.out l
  have HDT : Hid ((mkS (dTrim l)).toList.isEmpty = isLay l) := abQb (dTrim l)
  have CT : Hid (∀ wx, Calls Tryz.prog 20 #[.string (mkS l)] wx fun e w' => e = .returned (.string (mkS (dTrim l))) ∧ wx = w') := fun wx => acQu l (by omega) wx
  have CG := hQQ (ahQ7 l (by omega))
  have HPT : Hid (∀ wx, StR w0 wx B g a j → Calls Tryz.prog 80 #[.pointer (some ⟨g, 0, none⟩), .string (mkS t), .string (mkS l)] wx (OneR w0 B g (j + 1) (thenS (lastT t [l] a) .ok))) := fun wx hs => hs.put ha.out (by omega) t l hls
  have HV : Hid (∀ h : 0 < (mkS l).size, (mkS l)[0]'h = l.headD 0) := fun h => by
   have := aaQw h
   rw [aaQn] at this
   have h2 : 0 < l.length := by have := aaQg l; omega
   rw [List.getElem?_eq_getElem h2] at this
   injection this with this
   rw [← this]
   cases l with
   | nil => cases h2
   | cons c r => rfl
  have hSz : (mkS l).size = l.length := aaQg l
  obtain ⟨DT, hDT⟩ : ∃ DT, DT = mkS (dTrim l) := ⟨_, rfl⟩
  rw [← hDT] at HDT CT
  clear hDT
  obtain ⟨S0, hS0⟩ : ∃ S0, S0 = mkS l := ⟨_, rfl⟩
  rw [← hS0] at CT CG HPT HV hcell hSz
  clear hS0
  by_cases h0 : 0 < S0.size
  rotate_left
  ·have h0I : ¬ (0 : Int) < (S0.size : Int) := by omega
   have hnil : l = [] := List.eq_nil_of_length_eq_zero (by omega)
   have hlay : isLay l = true := by rw [hnil]; rfl
   have HEN : Hid (¬ endB t l = true) := by show ¬ _; rw [hes, hnil]; simp
   clear hes hnil HV CG h0
   have hq : S0.toList.isEmpty = S0.toList.isEmpty := rfl
   have hq : DT.toList.isEmpty = true := HDT.out.trans hlay
   have HN : Hid (X = blkR t (ls.drop (j + 1)) a) := HXS.out.trans ((if_neg HEN.out).trans (if_pos hlay))
   have HS1 := hQQ HS.out.more
   clear HXS HEN hlay HS HPT HDT
   go_wp2_with fail
   refine (CT.out _).mono ?_
   rintro e wz ⟨rfl, rfl⟩
   clear CT
   go_wp2_with fail
   go_roundg (gk - 1)
   case measure => omega
   case rel => exact ⟨j + 1, a, by omega, by omega, by go_num, ha, HN, HS1⟩
  have h0I : (0 : Int) < (S0.size : Int) := by omega
  have hbyte := HV.out h0
  clear HV
  by_cases h45 : S0[0]'h0 = 45
  rotate_left
  ·have t45 : (((S0[0]'h0).toNat : Int) == 45) = false := beq_eq_false_iff_ne.2 fun e => h45 (UInt8.toNat_inj.1 (by show _ = 45; omega))
   have HEN : Hid (¬ endB t l = true) := by
    show ¬ _
    rw [hes, ← hbyte]
    simp [h45]
   clear hes hbyte h45 CG
   by_cases hlay : isLay l = true
   ·have hq : S0.toList.isEmpty = S0.toList.isEmpty := rfl
    have hq : DT.toList.isEmpty = true := HDT.out.trans hlay
    have HN : Hid (X = blkR t (ls.drop (j + 1)) a) := HXS.out.trans ((if_neg HEN.out).trans (if_pos hlay))
    have HS1 := hQQ HS.out.more
    clear HXS HEN hlay HS HPT HDT
    go_wp2_with fail
    refine (CT.out _).mono ?_
    rintro e wz ⟨rfl, rfl⟩
    clear CT
    go_wp2_with fail
    go_roundg (gk - 1)
    case measure => omega
    case rel => exact ⟨j + 1, a, by omega, by omega, by go_num, ha, HN, HS1⟩
   have hq : DT.toList.isEmpty = false := HDT.out.trans (Bool.eq_false_iff.2 hlay)
   by_cases hpk : t = pkgN
   ·have hq2 : ((mkS t).toList == ([80, 107, 103] : List UInt8)) = true := by rw [hpk]; decide +kernel
    have HN : Hid (X = blkR t (ls.drop (j + 1)) a) := HXS.out.trans ((if_neg HEN.out).trans ((if_neg hlay).trans (by rw [hpk, aeQ5 l ha.out])))
    have HS1 := hQQ HS.out.more
    clear HXS HEN hlay HS HPT HDT hpk
    go_wp2_with fail
    refine (CT.out _).mono ?_
    rintro e wz ⟨rfl, rfl⟩
    clear CT
    go_wp2_with fail
    go_roundg (gk - 1)
    case measure => omega
    case rel => exact ⟨j + 1, a, by omega, by omega, by go_num, ha, HN, HS1⟩
   have hq2 : ((mkS t).toList == ([80, 107, 103] : List UInt8)) = false := abQ6 hpk
   have HU := hQQ (HPT.out _ HS.out)
   have HN := hQQ (HXS.out.trans ((if_neg HEN.out).trans (if_neg hlay)))
   clear HXS HEN hlay HS HPT HDT hpk
   go_wp2_with fail
   refine (CT.out _).mono ?_
   rintro e wz ⟨rfl, rfl⟩
   clear CT
   go_wp2_with fail
   refine HU.out.mono ?_
   intro e wy hO
   clear HU
   cases hP : lastT t [l] a with
   | none =>
     rw [hP] at hO
     obtain ⟨rfl, -, hT⟩ := hO
     have HT := hQQ hT
     have HE : Hid (X = none) := by show X = _; rw [HN.out, hP]
     clear hT HN hP
     go_wp2_with fail
     go_ret2
     show BlkP _ _ _ _ _ X _ _
     rw [HE.out]
     exact ⟨rfl, HT.out⟩
   | some a' =>
     rw [hP] at hO
     obtain ⟨rfl, hS'⟩ := hO
     have HS1 := hQQ hS'
     have HE : Hid (X = blkR t (ls.drop (j + 1)) a') := by show X = _; rw [HN.out, hP]
     have ha' := hQQ (agQp hP ha.out)
     clear hS' HN hP
     go_wp2_with fail
     go_roundg (gk - 1)
     case measure => omega
     case rel => exact ⟨j + 1, a', by omega, by omega, by go_num, ha', HE, HS1⟩
  have t45 : (((S0[0]'h0).toNat : Int) == 45) = true := by rw [h45]; rfl
  have hd45 : l.headD 0 = 45 := by rw [← hbyte, h45]
  rw [hd45] at hes
  clear hbyte h45
  go_wp2_with fail
  refine (CG.out _).mono ?_
  rintro e w2 ⟨rfl, hb2⟩
  have HS2 := hQQ (HS.out.below hb2)
  clear hb2 CG HS
  obtain ⟨Q, hQ⟩ : ∃ Q, Q = tagX l := ⟨_, rfl⟩
  rw [← hQ] at hes ⊢
  obtain ⟨n, rest, ok⟩ := Q
  have HQl : Hid (rest.length ≤ 40000) := by
   show _ ≤ _
   have h1 := ajQ6 l
   rw [← hQ] at h1
   exact Nat.le_trans h1 hls
  clear hQ
  have HS := hQQ HS2.out
  clear HS2
  dsimp only at hes ⊢
  cases ok with
  | false =>
    have HEN : Hid (¬ endB t l = true) := by show ¬ _; rw [hes]; simp
    clear hes
    by_cases hlay : isLay l = true
    ·have hq : S0.toList.isEmpty = S0.toList.isEmpty := rfl
     have hq : DT.toList.isEmpty = true := HDT.out.trans hlay
     have HN : Hid (X = blkR t (ls.drop (j + 1)) a) := HXS.out.trans ((if_neg HEN.out).trans (if_pos hlay))
     have HS1 := hQQ HS.out.more
     clear HXS HEN hlay HS HPT HDT
     go_wp2_with fail
     refine (CT.out _).mono ?_
     rintro e wz ⟨rfl, rfl⟩
     clear CT
     go_wp2_with fail
     go_roundg (gk - 1)
     case measure => omega
     case rel => exact ⟨j + 1, a, by omega, by omega, by go_num, ha, HN, HS1⟩
    have hq : DT.toList.isEmpty = false := HDT.out.trans (Bool.eq_false_iff.2 hlay)
    by_cases hpk : t = pkgN
    ·have hq2 : ((mkS t).toList == ([80, 107, 103] : List UInt8)) = true := by rw [hpk]; decide +kernel
     have HN : Hid (X = blkR t (ls.drop (j + 1)) a) := HXS.out.trans ((if_neg HEN.out).trans ((if_neg hlay).trans (by rw [hpk, aeQ5 l ha.out])))
     have HS1 := hQQ HS.out.more
     clear HXS HEN hlay HS HPT HDT hpk
     go_wp2_with fail
     refine (CT.out _).mono ?_
     rintro e wz ⟨rfl, rfl⟩
     clear CT
     go_wp2_with fail
     go_roundg (gk - 1)
     case measure => omega
     case rel => exact ⟨j + 1, a, by omega, by omega, by go_num, ha, HN, HS1⟩
    have hq2 : ((mkS t).toList == ([80, 107, 103] : List UInt8)) = false := abQ6 hpk
    have HU := hQQ (HPT.out _ HS.out)
    have HN := hQQ (HXS.out.trans ((if_neg HEN.out).trans (if_neg hlay)))
    clear HXS HEN hlay HS HPT HDT hpk
    go_wp2_with fail
    refine (CT.out _).mono ?_
    rintro e wz ⟨rfl, rfl⟩
    clear CT
    go_wp2_with fail
    refine HU.out.mono ?_
    intro e wy hO
    clear HU
    cases hP : lastT t [l] a with
    | none =>
      rw [hP] at hO
      obtain ⟨rfl, -, hT⟩ := hO
      have HT := hQQ hT
      have HE : Hid (X = none) := by show X = _; rw [HN.out, hP]
      clear hT HN hP
      go_wp2_with fail
      go_ret2
      show BlkP _ _ _ _ _ X _ _
      rw [HE.out]
      exact ⟨rfl, HT.out⟩
    | some a' =>
      rw [hP] at hO
      obtain ⟨rfl, hS'⟩ := hO
      have HS1 := hQQ hS'
      have HE : Hid (X = blkR t (ls.drop (j + 1)) a') := by show X = _; rw [HN.out, hP]
      have ha' := hQQ (agQp hP ha.out)
      clear hS' HN hP
      go_wp2_with fail
      go_roundg (gk - 1)
      case measure => omega
      case rel => exact ⟨j + 1, a', by omega, by omega, by go_num, ha', HE, HS1⟩
  | true =>
    by_cases hnt : n = t
    rotate_left
    ·have q1 : ((mkS n).toList == (mkS t).toList) = false := adQc fun e => hnt (mkS_inj_ e)
     have HEN : Hid (¬ endB t l = true) := by show ¬ _; rw [hes]; simp [hnt]
     clear hes hnt
     by_cases hlay : isLay l = true
     ·have hq : S0.toList.isEmpty = S0.toList.isEmpty := rfl
      have hq : DT.toList.isEmpty = true := HDT.out.trans hlay
      have HN : Hid (X = blkR t (ls.drop (j + 1)) a) := HXS.out.trans ((if_neg HEN.out).trans (if_pos hlay))
      have HS1 := hQQ HS.out.more
      clear HXS HEN hlay HS HPT HDT
      go_wp2_with fail
      refine (CT.out _).mono ?_
      rintro e wz ⟨rfl, rfl⟩
      clear CT
      go_wp2_with fail
      go_roundg (gk - 1)
      case measure => omega
      case rel => exact ⟨j + 1, a, by omega, by omega, by go_num, ha, HN, HS1⟩
     have hq : DT.toList.isEmpty = false := HDT.out.trans (Bool.eq_false_iff.2 hlay)
     by_cases hpk : t = pkgN
     ·have hq2 : ((mkS t).toList == ([80, 107, 103] : List UInt8)) = true := by rw [hpk]; decide +kernel
      have HN : Hid (X = blkR t (ls.drop (j + 1)) a) := HXS.out.trans ((if_neg HEN.out).trans ((if_neg hlay).trans (by rw [hpk, aeQ5 l ha.out])))
      have HS1 := hQQ HS.out.more
      clear HXS HEN hlay HS HPT HDT hpk
      go_wp2_with fail
      refine (CT.out _).mono ?_
      rintro e wz ⟨rfl, rfl⟩
      clear CT
      go_wp2_with fail
      go_roundg (gk - 1)
      case measure => omega
      case rel => exact ⟨j + 1, a, by omega, by omega, by go_num, ha, HN, HS1⟩
     have hq2 : ((mkS t).toList == ([80, 107, 103] : List UInt8)) = false := abQ6 hpk
     have HU := hQQ (HPT.out _ HS.out)
     have HN := hQQ (HXS.out.trans ((if_neg HEN.out).trans (if_neg hlay)))
     clear HXS HEN hlay HS HPT HDT hpk
     go_wp2_with fail
     refine (CT.out _).mono ?_
     rintro e wz ⟨rfl, rfl⟩
     clear CT
     go_wp2_with fail
     refine HU.out.mono ?_
     intro e wy hO
     clear HU
     cases hP : lastT t [l] a with
     | none =>
       rw [hP] at hO
       obtain ⟨rfl, -, hT⟩ := hO
       have HT := hQQ hT
       have HE : Hid (X = none) := by show X = _; rw [HN.out, hP]
       clear hT HN hP
       go_wp2_with fail
       go_ret2
       show BlkP _ _ _ _ _ X _ _
       rw [HE.out]
       exact ⟨rfl, HT.out⟩
     | some a' =>
       rw [hP] at hO
       obtain ⟨rfl, hS'⟩ := hO
       have HS1 := hQQ hS'
       have HE : Hid (X = blkR t (ls.drop (j + 1)) a') := by show X = _; rw [HN.out, hP]
       have ha' := hQQ (agQp hP ha.out)
       clear hS' HN hP
       go_wp2_with fail
       go_roundg (gk - 1)
       case measure => omega
       case rel => exact ⟨j + 1, a', by omega, by omega, by go_num, ha', HE, HS1⟩
    subst hnt
    have CR : Hid (∀ wx, Calls Tryz.prog 20 #[.string (mkS rest)] wx fun e w' => e = .returned (.string (mkS (dTrim rest))) ∧ wx = w') := fun wx => acQu rest (by have := HQl.out; omega) wx
    have HRT := hQQ (abQb (dTrim rest))
    by_cases hlr : isLay rest = true
    ·have q2 : (mkS (dTrim rest)).toList.isEmpty = true := HRT.out.trans hlr
     have HE : Hid (X = some (a, ls.drop (j + 1))) := HXS.out.trans (if_pos (by rw [hes, hlr]; simp))
     clear hes hlr HXS HRT HPT CT HDT
     generalize mkS (dTrim rest) = DR at *
     go_wp2_with fail
     refine (CR.out _).mono ?_
     rintro e wz ⟨rfl, rfl⟩
     clear CR
     go_wp2_with fail
     go_ret2
     show BlkP _ _ _ _ _ X _ _
     rw [HE.out]
     exact ⟨j + 1, rfl, rfl, by omega, by omega, HS.out.more⟩
    ·have q2 : (mkS (dTrim rest)).toList.isEmpty = false := HRT.out.trans (Bool.eq_false_iff.2 hlr)
     have HEN : Hid (¬ endB n l = true) := by show ¬ _; rw [hes, Bool.eq_false_iff.2 hlr]; simp
     clear hes hlr HRT
     generalize mkS (dTrim rest) = DR at *
     go_wp2_with fail
     refine (CR.out _).mono ?_
     rintro e wz ⟨rfl, rfl⟩
     clear CR
     by_cases hlay : isLay l = true
     ·have hq : S0.toList.isEmpty = S0.toList.isEmpty := rfl
      have hq : DT.toList.isEmpty = true := HDT.out.trans hlay
      have HN : Hid (X = blkR n (ls.drop (j + 1)) a) := HXS.out.trans ((if_neg HEN.out).trans (if_pos hlay))
      have HS1 := hQQ HS.out.more
      clear HXS HEN hlay HS HPT HDT
      go_wp2_with fail
      refine (CT.out _).mono ?_
      rintro e wz ⟨rfl, rfl⟩
      clear CT
      go_wp2_with fail
      go_roundg (gk - 1)
      case measure => omega
      case rel => exact ⟨j + 1, a, by omega, by omega, by go_num, ha, HN, HS1⟩
     have hq : DT.toList.isEmpty = false := HDT.out.trans (Bool.eq_false_iff.2 hlay)
     by_cases hpk : n = pkgN
     ·have hq2 : ((mkS n).toList == ([80, 107, 103] : List UInt8)) = true := by rw [hpk]; decide +kernel
      have HN : Hid (X = blkR n (ls.drop (j + 1)) a) := HXS.out.trans ((if_neg HEN.out).trans ((if_neg hlay).trans (by rw [hpk, aeQ5 l ha.out])))
      have HS1 := hQQ HS.out.more
      clear HXS HEN hlay HS HPT HDT hpk
      go_wp2_with fail
      refine (CT.out _).mono ?_
      rintro e wz ⟨rfl, rfl⟩
      clear CT
      go_wp2_with fail
      go_roundg (gk - 1)
      case measure => omega
      case rel => exact ⟨j + 1, a, by omega, by omega, by go_num, ha, HN, HS1⟩
     have hq2 : ((mkS n).toList == ([80, 107, 103] : List UInt8)) = false := abQ6 hpk
     have HU := hQQ (HPT.out _ HS.out)
     have HN := hQQ (HXS.out.trans ((if_neg HEN.out).trans (if_neg hlay)))
     clear HXS HEN hlay HS HPT HDT hpk
     go_wp2_with fail
     refine (CT.out _).mono ?_
     rintro e wz ⟨rfl, rfl⟩
     clear CT
     go_wp2_with fail
     refine HU.out.mono ?_
     intro e wy hO
     clear HU
     cases hP : lastT n [l] a with
     | none =>
       rw [hP] at hO
       obtain ⟨rfl, -, hT⟩ := hO
       have HT := hQQ hT
       have HE : Hid (X = none) := by show X = _; rw [HN.out, hP]
       clear hT HN hP
       go_wp2_with fail
       go_ret2
       show BlkP _ _ _ _ _ X _ _
       rw [HE.out]
       exact ⟨rfl, HT.out⟩
     | some a' =>
       rw [hP] at hO
       obtain ⟨rfl, hS'⟩ := hO
       have HS1 := hQQ hS'
       have HE : Hid (X = blkR n (ls.drop (j + 1)) a') := by show X = _; rw [HN.out, hP]
       have ha' := hQQ (agQp hP ha.out)
       clear hS' HN hP
       go_wp2_with fail
       go_roundg (gk - 1)
       case measure => omega
       case rel => exact ⟨j + 1, a', by omega, by omega, by go_num, ha', HE, HS1⟩
def ReadR (w0 : World) (g : Nat) (X : Except Int (List Sk)) (e : Ending) (w' : World) : Prop := match X with
 | .error n => e = .returned (.int .i64 n) ∧ n ≠ 0 ∧ Below w0.heap.size w0 w'
 | .ok l => e = .returned (.int .i64 0) ∧ ∃ r v xs, AllM w0 w' w0.heap.size g r v xs ∧ xs.map Sk5.S = l
def anQ9 : Prop := ∀ (w0 w1 : World) (g : Nat) (t : Bs), t.length ≤ 40000 → Ev.Tabs w0 → MaxAt w0 → AllM w0 w1 w0.heap.size g t (.slice none 0 0) [] →
    Calls Tryz.prog 35 #[.pointer (some ⟨g, 0, none⟩)] w1 (ReadR w0 g (readS ((aaQm t).length + 1) (aaQm t) []))
structure PsS (w0 w : World) (v : Value) (xs : List Sk5) : Prop where
 row : w.ownsRow w0.heap.size 37 12 v xs.length (rowsK xs)
 old : ∀ y ∈ xs, OldM w w.heap.size y
 bel : Below w0.heap.size w0 w
theorem PsS.below {w0 w w' : World} {v : Value} {xs : List Sk5} (h : PsS w0 w v xs) (hb : Below w.heap.size w w') : PsS w0 w' v xs :=
 ⟨aaQf h.row (Turned.of_below hb []) (fun k hk => by simp), fun y hy => ((h.old y hy).below hb).mono hb.size, h.bel.trans (hb.mono h.bel.size)⟩
def adQj (w0 : World) (X : Except Int (List Sk)) (e : Ending) (w' : World) : Prop := match X with
 | .error n => e = .returned (.tuple #[.slice none 0 0, .int .i64 n]) ∧ n ≠ 0 ∧ Below w0.heap.size w0 w'
 | .ok l => ∃ v xs, e = .returned (.tuple #[v, .int .i64 0]) ∧ xs.map Sk5.S = l ∧ PsS w0 w' v xs
set_option maxHeartbeats 4000000 in
set_option maxRecDepth 100000 in
theorem aeQp (hR : anQ9) (t : Bs) (w : World) (hT : Ev.Tabs w) (hM : MaxAt w) : Calls Tryz.prog 17 #[.string (mkS t)] w (adQj w (acQx t)) := by
 obtain ⟨X, hX⟩ : ∃ X, X = acQx t := ⟨_, rfl⟩
 rw [← hX]
 have HX := hQQ hX
 clear hX
 have hsz : (mkS t).size = t.length := aaQg t
 by_cases hbig : t.length ≤ 40000
 rotate_left
 ·have hI : (40000 : Int) < ((mkS t).size : Int) := by omega
  have HE : Hid (X = .error 132) := by show X = _; rw [HX.out]; exact if_neg hbig
  clear hbig hsz HX hT hM hR
  generalize mkS t = S at *
  go_enter Tryz.func17, Tryz.ntmps17
  go_wp2_with fail
  go_ret2
  show adQj w X _ _
  rw [HE.out]
  exact ⟨rfl, by decide, Below.refl _ _⟩
 have hI : ¬ (40000 : Int) < ((mkS t).size : Int) := by omega
 have HE : Hid (X = readS ((aaQm t).length + 1) (aaQm t) []) := by show X = _; rw [HX.out]; exact if_pos hbig
 clear HX
 obtain ⟨w1, hw1⟩ : ∃ w1, w1 = w.alloc (.cells #[.string (mkS t), .slice none 0 0] 67) := ⟨_, rfl⟩
 have hb1 : Below w.heap.size w w1 := by rw [hw1]; exact (Below.refl _ _).alloc (Nat.le_refl _) _
 have hA : AllM w w1 w.heap.size w.heap.size t (.slice none 0 0) [] := ⟨by rw [hw1]; exact Blk.new _ _ _, World.ownsRow_nil _ _ _ _, (fun y hy => by cases hy), ⟨Nat.le_refl _, hb1.size⟩, hb1⟩
 have C := hQQ (hR w w1 w.heap.size t hbig hT hM hA)
 rw [← HE.out] at C
 clear hbig hA hb1 hT hM hR hsz HE
 go_enter Tryz.func17, Tryz.ntmps17
 go_upto_region 4 with fail
 rw [← hw1]
 clear hw1
 generalize mkS t = S at *
 go_wp2_with fail
 refine C.out.mono ?_
 intro e w2 hp
 clear C
 cases X with
 | error n =>
   obtain ⟨rfl, hn, hb⟩ := hp
   have hq : (n != 0) = true := by simp [hn]
   have HN := hQQ hn
   have HB := hQQ hb
   clear hn hb
   go_wp2_with fail
   go_ret2
   exact ⟨rfl, HN.out, HB.out⟩
 | ok l =>
   obtain ⟨rfl, r, v, xs, hAll, hl⟩ := hp
   have c1 := Blk.cell hAll.rd 1
   simp at c1
   obtain ⟨A, c, hv, _, _⟩ := aaQc hAll.row
   subst hv
   have HP : Hid (PsS w w2 (.slice A xs.length c) xs) := ⟨hAll.row, hAll.old, hAll.bel⟩
   have HL := hQQ hl
   clear hAll hl
   go_wp2_with fail
   go_ret2
   exact ⟨_, xs, rfl, HL.out, HP.out⟩
theorem ahQj (t : Bs) (vs : List Bs) : ∀ (acc a : List Sk), lastT t vs acc = some a → a.dropLast = acc.dropLast
 | [], a, h => by cases h
 | [S], a, h => by
   have h : (match putT t vs S with | some S' => some [S'] | none => none) = some a := h
   cases hp : putT t vs S with
   | none => rw [hp] at h; cases h
   | some S' => rw [hp] at h; injection h with h; rw [← h]; rfl
 | S :: S2 :: r, a, h => by
   have h : (match lastT t vs (S2 :: r) with | some r' => some (S :: r') | none => none) = some a := h
   cases hp : lastT t vs (S2 :: r) with
   | none => rw [hp] at h; cases h
   | some r' =>
     rw [hp] at h
     injection h with h
     rw [← h]
     have ih := ahQj t vs (S2 :: r) r' hp
     have hl := adQ8 _ _ _ _ hp
     cases r' with
     | nil => cases hl
     | cons x y =>
       show S :: (x :: y).dropLast = S :: (S2 :: r).dropLast
       rw [ih]
theorem ajQ3 {acc : List Sk} (h : ∀ S ∈ acc.dropLast, chkS S = 0) (hw : aaQ4 acc = 0) : ∀ S ∈ acc, chkS S = 0 := by
 by_cases he : acc = []
 ·subst he
  intro S hS
  cases hS
 ·have e : acc.dropLast ++ [acc.getLast he] = acc := List.dropLast_concat_getLast he
  intro S hS
  rw [← e] at hS hw
  rcases List.mem_append.1 hS with hS | hS
  ·exact h S hS
  ·rw [List.mem_singleton.1 hS]
   rw [aeQf _ _ (by simp)] at hw
   exact hw
theorem acQv : ∀ (n : Nat) (ls : List Bs) (acc b : List Sk), ls.length < n → (∀ S ∈ acc.dropLast, chkS S = 0) → readS n ls acc = .ok b → ∀ S ∈ b, chkS S = 0
 | 0, _, _, _, hn, _, _ => absurd hn (Nat.not_lt_zero _)
 | n + 1, [], acc, b, _, ha, h => by
   rw [agQ7] at h
   by_cases hw : aaQ4 acc = 0
   ·rw [if_pos hw] at h
    injection h with h
    rw [← h]
    exact ajQ3 ha hw
   ·rw [if_neg hw] at h; cases h
 | n + 1, l :: ls, acc, b, hn, ha, h => by
   have hn : ls.length < n := Nat.lt_of_succ_lt_succ hn
   rw [adQe] at h
   cases hl : lineS l acc.isEmpty with
   | skip => rw [hl] at h; exact acQv n ls acc b hn ha h
   | bad => rw [hl] at h; cases h
   | pack v =>
     rw [hl] at h
     dsimp only at h
     cases hb : abQk acc v with
     | error e => rw [hb] at h; cases h
     | ok a =>
       rw [hb] at h
       obtain ⟨hw, _, S, _, rfl⟩ := alQr hb
       exact acQv n ls _ b hn (by rw [List.dropLast_concat]; exact ajQ3 ha hw) h
   | one t v =>
     rw [hl] at h
     obtain ⟨a, h1, h2⟩ := agQh h
     exact acQv n ls a b hn (by rw [ahQj _ _ _ _ h1]; exact ha) h2
   | blk t =>
     rw [hl] at h
     dsimp only at h
     cases hb : abQj t ls [] with
     | none => rw [hb] at h; cases h
     | some x =>
       obtain ⟨vs, ls'⟩ := x
       rw [hb] at h
       have hlt := afQf t ls [] vs ls' hb
       obtain ⟨a, h1, h2⟩ := agQh h
       exact acQv n ls' a b (by omega) (by rw [ahQj _ _ _ _ h1]; exact ha) h2
theorem akQv {t : Bs} {b : List Sk} (h : acQx t = .ok b) : ∀ S ∈ b, chkS S = 0 := by
 unfold acQx at h
 split at h
 ·exact acQv _ _ _ _ (Nat.lt_succ_self _) (by simp) h
 ·cases h
theorem alQ0 {S : Sk} (h : chkS S = 0) : S.fl.length ≤ 1048576 := by
 unfold chkS chkD Ev.chkN at h
 split at h
 ·next h1 => exact absurd h h1
 ·split at h
  ·cases h
  ·split at h
   ·cases h
   ·next hf =>
    have hf : Ev.filesBad (pkgS S).files = false := by simpa using hf
    have e : (pkgS S).files.length = S.fl.length := List.length_map _
    unfold Ev.filesBad at hf
    rw [Bool.or_eq_false_iff] at hf
    have := of_decide_eq_false hf.1
    omega
theorem aiQ0 {j : Nat} (hj : j < 12) : ∀ (xs : List Sk5) (k : Nat) (x : Sk5), xs[k]? = some x → (rowsK xs)[k * 12 + j]? = x.row[j]?
 | [], _, _, h => by simp at h
 | y :: r, 0, x, h => by
   simp at h
   subst h
   show (y.row ++ rowsK r)[0 * 12 + j]? = _
   rw [List.getElem?_append_left (by show _ < 12; omega), Nat.zero_mul, Nat.zero_add]
 | y :: r, k + 1, x, h => by
   show (y.row ++ rowsK r)[(k + 1) * 12 + j]? = _
   have : y.row.length = 12 := rfl
   rw [List.getElem?_append_right (by omega), this, show (k + 1) * 12 + j - 12 = k * 12 + j from by omega]
   exact aiQ0 hj r k x h
theorem PsS.pks {w0 w : World} {A : Option Addr} {n c : Nat} {xs : List Sk5} (h : PsS w0 w (.slice A n c) xs) (hw : ∀ x ∈ xs, chkS x.S = 0) : Ev.PksAt w (xs.map fun x => pkgS x.S) A := fun k p hk => by
 rw [List.getElem?_map] at hk
 obtain ⟨x, hx, rfl⟩ := Option.map_eq_some_iff.1 hk
 have hV := h.old x (List.mem_of_getElem? hx)
 obtain ⟨b, rfl, _⟩ := abQl h.row (k := k * 12 + 0) (u := .string (mkS (x.S.T 0))) (by rw [aiQ0 (by omega) xs k x hx]; rfl)
 refine ⟨b, 0, x.ss, x.fs, DbB w, StB w, rfl, hV.pkg, ?_, fun j hj => ?_⟩
 ·show (x.S.fl.map mkS).length ≤ _
  rw [List.length_map]
  exact alQ0 (hw x (List.mem_of_getElem? hx))
 obtain ⟨u, hu⟩ : ∃ u, x.row[j]? = some u := ⟨_, List.getElem?_eq_getElem (by show j < 12; exact hj)⟩
 obtain ⟨b', e, hc⟩ := abQl h.row (k := k * 12 + j) (u := u) (by rw [aiQ0 hj xs k x hx]; exact hu)
 injection e with e
 injection e with e
 subst e
 rw [Nat.zero_add, hc]
 have : (Ev.rowP (pkgS x.S) x.ss x.fs)[j]? = x.row[j]? := by
  show (x.row.toArray)[j]? = _
  rw [List.getElem?_toArray]
 rw [this, hu]
end Go.Proofs.YtdhgiammfpjniaaGreatDoor
