/- XmlpullQuiet: its law. -/
import Derived.Test.YtoifibnmincodaaGreatDoorXesC
import Derived.Test.YtoifibnmincodaaGreatDoorXesF
import Derived.Test.YtoifibnmincodaaGreatDoorXaw
namespace Go.Proofs.YtoifibnmincodaaGreatDoor
set_option linter.unusedSimpArgs false
set_option linter.unusedVariables false
open Go.RowKit

def AllQ (w : World) (r : List Pc × Int) (e : Ending) (w' : World) : Prop := ∃ A c, e = .returned (.tuple #[.slice A r.1.length c, .int .i64 r.2]) ∧ PcsR w' A r.1 ∧ r.1.length ≤ c ∧ c ≤ maxLen ∧ Below w.heap.size w w'
theorem all_q (l : Bs) {w : World} {B : Nat} (hE : XEnv B w) : Calls Tryz.prog 9 #[.string (mkS l)] w (AllQ w (allX l)) := by
  refine (all_any l hE).mono ?_
  rintro e w' ⟨v, cs, rfl, hown, hpc, hb⟩
  obtain ⟨A, c, rfl, hnc, hcm⟩ := own_form' hown
  exact ⟨A, c, rfl, pcsR_of hown hpc, hnc, hcm, hb⟩
theorem cat_A (a b : Bs) : (⟨#[60, 97, 62]⟩ ++ mkS (escX a) ++ mkS (escX b) ++ ⟨#[60, 47, 97, 62]⟩ : ByteArray) = mkS (docA a b) := s_ext (by simp only [bl_app, mkS_list]; simp [docA, tailA])
theorem cat_B (a q b : Bs) : (⟨#[60, 97, 62]⟩ ++ mkS (escX a) ++ ⟨#[60, 33, 45, 45]⟩ ++ mkS (escX q) ++ ⟨#[45, 45, 62]⟩ ++ mkS (escX b) ++ ⟨#[60, 47, 97, 62]⟩ : ByteArray) = mkS (docB a q b) := s_ext (by simp only [bl_app, mkS_list]; simp [docB, tailA])
theorem cat_C (a q b : Bs) : (⟨#[60, 97, 62]⟩ ++ mkS (escX a) ++ ⟨#[60, 63, 120, 32]⟩ ++ mkS (escX q) ++ ⟨#[63, 62]⟩ ++ mkS (escX b) ++ ⟨#[60, 47, 97, 62]⟩ : ByteArray) = mkS (docC a q b) := s_ext (by simp only [bl_app, mkS_list]; simp [docC, tailA])
theorem line_at {q : Bs} {k : Nat} {c : UInt8} (h : q[k]? = some c) : lineR (q.drop k) = ((c == 45 && (decide (k + 1 = q.length) || q[k + 1]? == some 45)) || lineR (q.drop (k + 1))) := by
  obtain ⟨hk, he⟩ := List.getElem?_eq_some_iff.1 h
  rw [List.drop_eq_getElem_cons hk, he]
  show ((c == 45 && ((q.drop (k + 1)).isEmpty || (q.drop (k + 1)).head? == some 45)) || _) = _
  rw [List.head?_drop]
  congr 3
  rw [Bool.eq_iff_iff]
  simp
  omega
set_option maxHeartbeats 8000000 in
set_option maxRecDepth 1000000 in
theorem quiet_law (a b q : Bs) (W : World) {B : Nat} (hE : XEnv B W) (hP : ∀ w', Below W.heap.size W w' → PowA w') :
    Calls Tryz.prog 4 #[.string (mkS a), .string (mkS b), .string (mkS q)] W fun e w' => e = .returned (.bool true) ∧ Below W.heap.size W w' := by
  by_cases h1 : 2000 < a.length
  · have CA := Lib.hid (awake_any W hE)
    clear hE hP
    have z0 : (2000 : Int) < (((mkS a)).size : Int) := by rw [mkS_size]; omega
    clear h1
    generalize mkS a = S1 at *
    generalize mkS b = S2 at *
    generalize mkS q = S3 at *
    go_enter Tryz.func4, Tryz.ntmps4
    go_wp2_with fail
    refine CA.out.mono ?_
    rintro e w1 ⟨rfl, hb1⟩
    have HB1 := Lib.hid hb1
    clear hb1 CA
    go_wp2_with fail
    go_ret
    exact ⟨rfl, HB1.out⟩
  by_cases h2 : 2000 < b.length
  · have CA := Lib.hid (awake_any W hE)
    clear hE hP
    have z0 : ¬ (2000 : Int) < (((mkS a)).size : Int) := by rw [mkS_size]; omega
    have z1 : (2000 : Int) < (((mkS b)).size : Int) := by rw [mkS_size]; omega
    clear h1 h2
    generalize mkS a = S1 at *
    generalize mkS b = S2 at *
    generalize mkS q = S3 at *
    go_enter Tryz.func4, Tryz.ntmps4
    go_wp2_with fail
    refine CA.out.mono ?_
    rintro e w1 ⟨rfl, hb1⟩
    have HB1 := Lib.hid hb1
    clear hb1 CA
    go_wp2_with fail
    go_ret
    exact ⟨rfl, HB1.out⟩
  by_cases h3 : 2000 < q.length
  · have CA := Lib.hid (awake_any W hE)
    clear hE hP
    have z0 : ¬ (2000 : Int) < (((mkS a)).size : Int) := by rw [mkS_size]; omega
    have z1 : ¬ (2000 : Int) < (((mkS b)).size : Int) := by rw [mkS_size]; omega
    have z2 : (2000 : Int) < (((mkS q)).size : Int) := by rw [mkS_size]; omega
    clear h1 h2 h3
    generalize mkS a = S1 at *
    generalize mkS b = S2 at *
    generalize mkS q = S3 at *
    go_enter Tryz.func4, Tryz.ntmps4
    go_wp2_with fail
    refine CA.out.mono ?_
    rintro e w1 ⟨rfl, hb1⟩
    have HB1 := Lib.hid hb1
    clear hb1 CA
    go_wp2_with fail
    go_ret
    exact ⟨rfl, HB1.out⟩
  have CA := Lib.hid (awake_any W hE)
  have h1' : a.length ≤ 2000 := by omega
  have h2' : b.length ≤ 2000 := by omega
  have h3' : q.length ≤ 2000 := by omega
  have z0 : ¬ (2000 : Int) < (((mkS a)).size : Int) := by rw [mkS_size]; omega
  have z1 : ¬ (2000 : Int) < (((mkS b)).size : Int) := by rw [mkS_size]; omega
  have z2 : ¬ (2000 : Int) < (((mkS q)).size : Int) := by rw [mkS_size]; omega
  clear h1 h2 h3
  have e1 : allX (docC a q b) = allX (docA a b) := quiet_C h1' h3' h2'
  have e2 : lineR q = false → allX (docB a q b) = allX (docA a b) := fun h => quiet_B h1' h3' h2' h
  have CEa := Lib.hid (fun w' (hb : Below W.heap.size W w') => escape_any a (by omega) (hE.below hb) (fun w'' hb' => hP w'' (hb.trans (hb'.mono hb.size))))
  have CEb := Lib.hid (fun w' (hb : Below W.heap.size W w') => escape_any b (by omega) (hE.below hb) (fun w'' hb' => hP w'' (hb.trans (hb'.mono hb.size))))
  have CEq := Lib.hid (fun w' (hb : Below W.heap.size W w') => escape_any q (by omega) (hE.below hb) (fun w'' hb' => hP w'' (hb.trans (hb'.mono hb.size))))
  have CA_ := Lib.hid (fun w' (hb : Below W.heap.size W w') => all_q (docA a b) (hE.below hb))
  have CB_ := Lib.hid (fun w' (hb : Below W.heap.size W w') => all_q (docB a q b) (hE.below hb))
  have CC_ := Lib.hid (fun w' (hb : Below W.heap.size W w') => all_q (docC a q b) (hE.below hb))
  rw [e1] at CC_
  rw [← cat_A] at CA_
  rw [← cat_B] at CB_
  rw [← cat_C] at CC_
  have HEQ := Lib.hid e2
  clear e1 e2 hE hP
  have HLN : Hid (∀ k : Nat, ∀ h : k < (mkS q).size, q[k]? = some (mkS q)[k]) := fun k h => byte_at (s := mkS q) h
  have HSZ : Hid (q.length = (mkS q).size) := rfl
  generalize allX (docA a b) = rA at *
  generalize allX (docB a q b) = rB at *
  obtain ⟨psA, eA⟩ := rA
  obtain ⟨psB, eB⟩ := rB
  have hE1 : (mkS (escX a)).size ≤ 12000 := by rw [mkS_size]; have := (escX_len a).2; omega
  have hE2 : (mkS (escX b)).size ≤ 12000 := by rw [mkS_size]; have := (escX_len b).2; omega
  have hE3 : (mkS (escX q)).size ≤ 12000 := by rw [mkS_size]; have := (escX_len q).2; omega
  generalize mkS (escX a) = E1 at *
  generalize mkS (escX b) = E2 at *
  generalize mkS (escX q) = E3 at *
  clear h1' h2' h3'
  generalize mkS a = S1 at *
  generalize mkS b = S2 at *
  generalize mkS q = S3 at *
  unfold AllQ at CA_ CB_ CC_
  go_enter Tryz.func4, Tryz.ntmps4
  go_wp2_with fail
  refine CA.out.mono ?_
  rintro e w1 ⟨rfl, hb1⟩
  have HB1 := Lib.hid hb1
  clear hb1 CA
  go_wp2_with fail
  refine (CEa.out _ HB1.out).mono ?_
  rintro e w2 ⟨rfl, hb⟩
  have HB2 := Lib.hid (HB1.out.trans (hb.mono HB1.out.size))
  clear hb
  go_wp2_with fail
  refine (CEb.out _ HB2.out).mono ?_
  rintro e w3 ⟨rfl, hb⟩
  have HB3 := Lib.hid (HB2.out.trans (hb.mono HB2.out.size))
  clear hb
  go_wp2_with fail
  refine (CA_.out _ HB3.out).mono ?_
  rintro e w4 ⟨AA_, cA_, rfl, hp, hl, hm, hb⟩
  have HPA_ := Lib.hid hp
  have HLA_ := Lib.hid hl
  have HMA_ := Lib.hid hm
  have HB4 := Lib.hid (HB3.out.trans (hb.mono HB3.out.size))
  clear hb hp hl hm CA_
  go_wp2_with fail
  refine (CEa.out _ HB4.out).mono ?_
  rintro e w5 ⟨rfl, hb⟩
  have HB5 := Lib.hid (HB4.out.trans (hb.mono HB4.out.size))
  have HPA_ := Lib.hid (HPA_.out.below hb)
  clear hb
  go_wp2_with fail
  refine (CEq.out _ HB5.out).mono ?_
  rintro e w6 ⟨rfl, hb⟩
  have HB6 := Lib.hid (HB5.out.trans (hb.mono HB5.out.size))
  have HPA_ := Lib.hid (HPA_.out.below hb)
  clear hb
  go_wp2_with fail
  refine (CEb.out _ HB6.out).mono ?_
  rintro e w7 ⟨rfl, hb⟩
  have HB7 := Lib.hid (HB6.out.trans (hb.mono HB6.out.size))
  have HPA_ := Lib.hid (HPA_.out.below hb)
  clear hb
  go_wp2_with fail
  refine (CB_.out _ HB7.out).mono ?_
  rintro e w8 ⟨AB_, cB_, rfl, hp, hl, hm, hb⟩
  have HPB_ := Lib.hid hp
  have HLB_ := Lib.hid hl
  have HMB_ := Lib.hid hm
  have HB8 := Lib.hid (HB7.out.trans (hb.mono HB7.out.size))
  have HPA_ := Lib.hid (HPA_.out.below hb)
  clear hb hp hl hm CB_
  go_wp2_with fail
  refine (CEa.out _ HB8.out).mono ?_
  rintro e w9 ⟨rfl, hb⟩
  have HB9 := Lib.hid (HB8.out.trans (hb.mono HB8.out.size))
  have HPA_ := Lib.hid (HPA_.out.below hb)
  have HPB_ := Lib.hid (HPB_.out.below hb)
  clear hb
  go_wp2_with fail
  refine (CEq.out _ HB9.out).mono ?_
  rintro e w10 ⟨rfl, hb⟩
  have HB10 := Lib.hid (HB9.out.trans (hb.mono HB9.out.size))
  have HPA_ := Lib.hid (HPA_.out.below hb)
  have HPB_ := Lib.hid (HPB_.out.below hb)
  clear hb
  go_wp2_with fail
  refine (CEb.out _ HB10.out).mono ?_
  rintro e w11 ⟨rfl, hb⟩
  have HB11 := Lib.hid (HB10.out.trans (hb.mono HB10.out.size))
  have HPA_ := Lib.hid (HPA_.out.below hb)
  have HPB_ := Lib.hid (HPB_.out.below hb)
  clear hb
  go_wp2_with fail
  refine (CC_.out _ HB11.out).mono ?_
  rintro e w12 ⟨AC_, cC_, rfl, hp, hl, hm, hb⟩
  have HPC_ := Lib.hid hp
  have HLC_ := Lib.hid hl
  have HMC_ := Lib.hid hm
  have HB12 := Lib.hid (HB11.out.trans (hb.mono HB11.out.size))
  have HPA_ := Lib.hid (HPA_.out.below hb)
  have HPB_ := Lib.hid (HPB_.out.below hb)
  clear hb hp hl hm CC_
  clear CEa CEb CEq
  unfold maxLen at HMA_ HMB_ HMC_
  go_wp2_with fail
  obtain ⟨N, hN⟩ : ∃ N, N = S3.size := ⟨_, rfl⟩
  go_loopg [14, 15] N (fun gk v14 v15 wx => ∃ (k : Nat) (bo : Bool), w12 = wx ∧ k + gk = N ∧ v14 = .bool bo ∧ v15 = .int .i64 (k : Int) ∧ Hid ((bo || lineR (q.drop k)) = lineR q))
  case atStart => exact ⟨0, false, rfl, by omega, rfl, rfl, by show (false || lineR (q.drop 0)) = lineR q; simp⟩
  case round =>
    obtain ⟨k, bo, rfl, hkg, rfl, rfl, HL⟩ := hrel
    by_cases hlt : k < S3.size
    · have hbyte := HLN.out k hlt
      have hstep := line_at hbyte
      rw [HSZ.out] at hstep
      by_cases hc : S3[k] = 45
      · have t45 : ((S3[k].toNat : Int) == 45) = true := by rw [hc]; rfl
        by_cases hlast : k + 1 = S3.size
        · have tl : ((k : Int) == (S3.size : Int) - 1) = true := by rw [beq_iff_eq]; omega
          have HL2 : Hid ((true || lineR (q.drop (k + 1))) = lineR q) := by
            show _ = _
            rw [← HL.out, hstep, hc]; simp [hlast]
          clear hstep hbyte hc HL
          go_wp2_with fail
          go_roundg (gk - 1)
          case measure => omega
          case rel => exact ⟨k + 1, true, rfl, by omega, rfl, rfl, HL2⟩
        · have tl : ((k : Int) == (S3.size : Int) - 1) = false := by rw [beq_eq_false_iff_ne]; omega
          have hlt2 : k + 1 < S3.size := by omega
          have hbyte2 := HLN.out (k + 1) hlt2
          by_cases hd : S3[k + 1] = 45
          · have t46 : ((S3[k + 1].toNat : Int) == 45) = true := by rw [hd]; rfl
            have HL2 : Hid ((true || lineR (q.drop (k + 1))) = lineR q) := by
              show _ = _
              rw [← HL.out, hstep, hc, hbyte2, hd]; simp
            clear hstep hbyte hc HL hbyte2 hd hlast
            go_wp2_with fail
            go_roundg (gk - 1)
            case measure => omega
            case rel => exact ⟨k + 1, true, rfl, by omega, rfl, rfl, HL2⟩
          · have t46 : ((S3[k + 1].toNat : Int) == 45) = false := by
              rw [beq_eq_false_iff_ne]; intro h; exact hd (UInt8.toNat_inj.1 (by have : (45 : UInt8).toNat = 45 := rfl; omega))
            have HL2 : Hid ((bo || lineR (q.drop (k + 1))) = lineR q) := by
              show _ = _
              have hd' : (S3[k + 1] == 45) = false := beq_eq_false_iff_ne.2 hd
              rw [← HL.out, hstep, hc, hbyte2]; simp [hlast, hd']
            clear hstep hbyte hc HL hbyte2 hd hlast
            go_wp2_with fail
            go_roundg (gk - 1)
            case measure => omega
            case rel => exact ⟨k + 1, bo, rfl, by omega, rfl, rfl, HL2⟩
      · have t45 : ((S3[k].toNat : Int) == 45) = false := by
          rw [beq_eq_false_iff_ne]; intro h; exact hc (UInt8.toNat_inj.1 (by have : (45 : UInt8).toNat = 45 := rfl; omega))
        have HL2 : Hid ((bo || lineR (q.drop (k + 1))) = lineR q) := by
          show _ = _
          rw [← HL.out, hstep, beq_eq_false_iff_ne.2 hc]; simp
        clear hstep hbyte hc HL
        go_wp2_with fail
        go_roundg (gk - 1)
        case measure => omega
        case rel => exact ⟨k + 1, bo, rfl, by omega, rfl, rfl, HL2⟩
    · have hdrop : q.drop k = [] := List.drop_eq_nil_of_le (by rw [HSZ.out]; omega)
      go_wp2_with fail
      refine (same_pcs _ AA_ AB_ psA psB cA_ cB_ HPA_.out HPB_.out HLA_.out HLB_.out HMA_.out HMB_.out).mono ?_
      rintro e wx ⟨⟨r1, rfl, hr1⟩, hb⟩
      have HBx := Lib.hid (HB12.out.trans (hb.mono HB12.out.size))
      have HPA2 := Lib.hid (HPA_.out.below hb)
      have HPC2 := Lib.hid (HPC_.out.below hb)
      have HR1 := Lib.hid hr1
      clear hb hr1 HPA_ HPB_ HPC_
      go_wp2_with fail
      refine (same_pcs _ AA_ AC_ psA psA cA_ cC_ HPA2.out HPC2.out HLA_.out HLC_.out HMA_.out HMC_.out).mono ?_
      rintro e wy ⟨⟨r2, rfl, hr2⟩, hb⟩
      have HBy := Lib.hid (HBx.out.trans (hb.mono HBx.out.size))
      have hr2 : r2 = true := hr2.2 rfl
      subst hr2
      clear hb
      have hE2 := HEQ.out
      cases bo with
      | false =>
        have hq : lineR q = false := by have := HL.out; rw [hdrop] at this; simpa [lineR] using this.symm
        have hAB := hE2 hq
        injection hAB with p1 p2
        subst p1; subst p2
        have hr1 : r1 = true := HR1.out.2 rfl
        subst hr1
        clear HEQ hE2 HL hdrop hq
        go_wp2_with fail
        go_ret
        exact ⟨rfl, HBy.out⟩
      | true =>
        clear HEQ hE2 HL hdrop
        by_cases hee : eA = eB
        · subst hee
          cases r1 <;> (go_wp2_with fail; go_ret; exact ⟨rfl, HBy.out⟩)
        · have tne : (eA != eB) = true := by simpa using hee
          have tne' : (eA == eB) = false := by simpa using hee
          clear hee
          cases r1 <;> (go_wp2_with fail; go_ret; exact ⟨rfl, HBy.out⟩)
end Go.Proofs.YtoifibnmincodaaGreatDoor
