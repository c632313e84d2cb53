/- XmlpullEscapes: its law. -/
import Derived.Test.YtoifibnmincodaaGreatDoorXesC
import Derived.Test.YtoifibnmincodaaGreatDoorXesF
import Derived.Test.YtoifibnmincodaaGreatDoorXaw
namespace Go.Proofs.YtoifibnmincodaaGreatDoor
set_option linter.unusedSimpArgs false
set_option linter.unusedVariables false
open Go.RowKit

def AllQe (w : World) (r : List Pc × Int) (e : Ending) (w' : World) : Prop := ∃ A c, e = .returned (.tuple #[.slice A r.1.length c, .int .i64 r.2]) ∧ PcsR w' A r.1 ∧ r.1.length ≤ c ∧ c ≤ maxLen ∧ Below w.heap.size w w'
theorem all_qe (l : Bs) {w : World} {B : Nat} (hE : XEnv B w) : Calls Tryz.prog 9 #[.string (mkS l)] w (AllQe w (allX l)) := by
  refine (all_any l hE).mono ?_
  rintro e w' ⟨v, cs, rfl, hown, hpc, hb⟩
  obtain ⟨A, c, rfl, hnc, hcm⟩ := own_form' hown
  exact ⟨A, c, rfl, pcsR_of hown hpc, hnc, hcm, hb⟩
theorem cat_E (a b : Bs) : (⟨#[60, 97, 32, 98, 61, 39]⟩ ++ mkS (escX a) ++ ⟨#[39, 62]⟩ ++ mkS (escX b) ++ ⟨#[60, 47, 97, 62]⟩ : ByteArray) = mkS (docE a b) := s_ext (by simp only [bl_app, mkS_list]; simp [docE])
theorem may_at {l : Bs} {k : Nat} {c : UInt8} (h : l[k]? = some c) : (l.take (k + 1)).all xMay = ((l.take k).all xMay && xMay c) := by
  rw [List.take_add_one, h, List.all_append]
  simp
/-- How a byte is asked. -/
theorem may_ways (c : UInt8) : (32 ≤ c.toNat ∧ xMay c = true) ∨ (¬ 32 ≤ c.toNat ∧ c.toNat = 9 ∧ xMay c = true) ∨ (¬ 32 ≤ c.toNat ∧ c.toNat = 10 ∧ xMay c = true) ∨ (¬ 32 ≤ c.toNat ∧ c.toNat = 13 ∧ xMay c = true) ∨ (¬ 32 ≤ c.toNat ∧ c.toNat ≠ 9 ∧ c.toNat ≠ 10 ∧ c.toNat ≠ 13 ∧ xMay c = false) := by
  revert c
  refine all_u8 ?_
  decide +kernel
def wantEA (v : ByteArray) : Array Value := #[.string (mkS [98]), .string v]
def wantEP (b : Nat) (t : ByteArray) : Array Value := #[.int .i64 1, .string (mkS [97]), .slice (some ⟨b, 0, none⟩) 1 1, .string ⟨#[]⟩, .int .i64 3, .string ⟨#[]⟩, .slice none 0 0, .string t, .int .i64 2, .string (mkS [97]), .slice none 0 0, .string ⟨#[]⟩]
def wantEQ (b : Nat) : Array Value := #[.int .i64 1, .string (mkS [97]), .slice (some ⟨b, 0, none⟩) 1 1, .string ⟨#[]⟩, .int .i64 2, .string (mkS [97]), .slice none 0 0, .string ⟨#[]⟩]
theorem al_one {w : World} {b : Nat} {v : Bs} (hA : Blk w b 29 (wantEA (mkS v))) : AlR w (some ⟨b, 0, none⟩) [([98], v)] := fun j a hj => by
  match j, hj with
  | 0, hj => injection hj with hj; subst hj; exact ⟨b, 0, rfl, hA.cell _, hA.cell _⟩
  | j + 1, hj => simp at hj
theorem want_full {w : World} {b g : Nat} {v t : Bs} (hA : Blk w b 29 (wantEA (mkS v))) (hP : Blk w g 32 (wantEP b (mkS t))) : PcsR w (some ⟨g, 0, none⟩) [startP [97] [([98], v)], ⟨3, [], [], t⟩, endP_ [97]] := fun k pc hk => by
  match k, hk with
  | 0, hk => injection hk with hk; subst hk; exact ⟨g, 0, some ⟨b, 0, none⟩, 1, rfl, hP.cell _, hP.cell _, hP.cell _, hP.cell _, Nat.le_refl _, by unfold maxLen; omega, al_one hA⟩
  | 1, hk => injection hk with hk; subst hk; exact ⟨g, 0, none, 0, rfl, hP.cell _, hP.cell _, hP.cell _, hP.cell _, Nat.le_refl _, by unfold maxLen; omega, fun j a hj => by cases hj⟩
  | 2, hk => injection hk with hk; subst hk; exact ⟨g, 0, none, 0, rfl, hP.cell _, hP.cell _, hP.cell _, hP.cell _, Nat.le_refl _, by unfold maxLen; omega, fun j a hj => by cases hj⟩
  | k + 3, hk => simp at hk
theorem want_empty {w : World} {b g : Nat} {v : Bs} (hA : Blk w b 29 (wantEA (mkS v))) (hP : Blk w g 32 (wantEQ b)) : PcsR w (some ⟨g, 0, none⟩) [startP [97] [([98], v)], endP_ [97]] := fun k pc hk => by
  match k, hk with
  | 0, hk => injection hk with hk; subst hk; exact ⟨g, 0, some ⟨b, 0, none⟩, 1, rfl, hP.cell _, hP.cell _, hP.cell _, hP.cell _, Nat.le_refl _, by unfold maxLen; omega, al_one hA⟩
  | 1, hk => injection hk with hk; subst hk; exact ⟨g, 0, none, 0, rfl, hP.cell _, hP.cell _, hP.cell _, hP.cell _, Nat.le_refl _, by unfold maxLen; omega, fun j a hj => by cases hj⟩
  | k + 2, hk => simp at hk
set_option maxHeartbeats 8000000 in
set_option maxRecDepth 1000000 in
theorem escapes_law (a b : Bs) (W : World) {B : Nat} (hE : XEnv B W) (hP : ∀ w', Below W.heap.size W w' → PowA w') :
    Calls Tryz.prog 3 #[.string (mkS a), .string (mkS b)] W fun e w' => e = .returned (.bool true) ∧ Below W.heap.size W w' := by
  by_cases h1 : 3000 < a.length
  · have CA := Lib.hid (awake_any W hE)
    clear hE hP
    have z0 : (3000 : Int) < (((mkS a)).size : Int) := by rw [mkS_size]; omega
    clear h1
    generalize mkS a = S1 at *
    generalize mkS b = S2 at *
    go_enter Tryz.func3, Tryz.ntmps3
    go_wp2_with fail
    refine CA.out.mono ?_
    rintro e w1 ⟨rfl, hb1⟩
    have HB1 := Lib.hid hb1
    clear hb1 CA
    go_wp2_with fail
    go_ret
    exact ⟨rfl, HB1.out⟩
  by_cases h2 : 3000 < b.length
  · have CA := Lib.hid (awake_any W hE)
    clear hE hP
    have z0 : ¬ (3000 : Int) < (((mkS a)).size : Int) := by rw [mkS_size]; omega
    have z1 : (3000 : Int) < (((mkS b)).size : Int) := by rw [mkS_size]; omega
    clear h1 h2
    generalize mkS a = S1 at *
    generalize mkS b = S2 at *
    go_enter Tryz.func3, Tryz.ntmps3
    go_wp2_with fail
    refine CA.out.mono ?_
    rintro e w1 ⟨rfl, hb1⟩
    have HB1 := Lib.hid hb1
    clear hb1 CA
    go_wp2_with fail
    go_ret
    exact ⟨rfl, HB1.out⟩
  have CA := Lib.hid (awake_any W hE)
  have h1' : a.length ≤ 3000 := by omega
  have h2' : b.length ≤ 3000 := by omega
  have z0 : ¬ (3000 : Int) < (((mkS a)).size : Int) := by rw [mkS_size]; omega
  have z1 : ¬ (3000 : Int) < (((mkS b)).size : Int) := by rw [mkS_size]; omega
  clear h1 h2
  have CEa := Lib.hid (fun w' (hb : Below W.heap.size W w') => escape_any a (by omega) (hE.below hb) (fun w'' hb' => hP w'' (hb.trans (hb'.mono hb.size))))
  have CEb := Lib.hid (fun w' (hb : Below W.heap.size W w') => escape_any b (by omega) (hE.below hb) (fun w'' hb' => hP w'' (hb.trans (hb'.mono hb.size))))
  have C_ := Lib.hid (fun w' (hb : Below W.heap.size W w') => all_qe (docE a b) (hE.below hb))
  rw [← cat_E] at C_
  have HG := Lib.hid (fun ga gb => docE_good h1' h2' ga gb)
  have HN := Lib.hid (fun g => docE_bad h1' h2' g)
  clear hE hP
  have HLa : Hid (∀ k : Nat, ∀ h : k < (mkS a).size, a[k]? = some (mkS a)[k]) := fun k h => byte_at (s := mkS a) h
  have HLb : Hid (∀ k : Nat, ∀ h : k < (mkS b).size, b[k]? = some (mkS b)[k]) := fun k h => byte_at (s := mkS b) h
  have HSa : Hid (a.length = (mkS a).size) := rfl
  have HSb : Hid (b.length = (mkS b).size) := rfl
  generalize hS1 : mkS a = S1 at *
  generalize hS2 : mkS b = S2 at *
  have HS1 := Lib.hid hS1.symm
  have HS2 := Lib.hid hS2.symm
  clear hS1 hS2
  have hE1 : (mkS (escX a)).size ≤ 18000 := by rw [mkS_size]; have := (escX_len a).2; omega
  have hE2 : (mkS (escX b)).size ≤ 18000 := by rw [mkS_size]; have := (escX_len b).2; omega
  generalize mkS (escX a) = E1 at *
  generalize mkS (escX b) = E2 at *
  clear h1' h2'
  generalize allX (docE a b) = rX at *
  obtain ⟨ps, e0⟩ := rX
  unfold AllQe at C_
  go_enter Tryz.func3, Tryz.ntmps3
  go_wp2_with fail
  refine CA.out.mono ?_
  rintro e w1 ⟨rfl, hb1⟩
  have HB1 := Lib.hid hb1
  clear hb1 CA
  go_wp2_with fail
  obtain ⟨Na, hNa⟩ : ∃ N, N = S1.size := ⟨_, rfl⟩
  go_loopg [6, 7, 8] Na (fun gk v6 v7 v8 wx => ∃ (k : Nat) (bo : Bool), w1 = wx ∧ k + gk = Na ∧ v6 = .bool bo ∧ v7 = .int .i64 (k : Int) ∧ Hid (bo = ((a.take k).all xMay)))
  case atStart => exact ⟨0, true, rfl, by omega, rfl, rfl, by show _ = _; simp⟩
  case round =>
    obtain ⟨k, bo, rfl, hkg, rfl, rfl, HR⟩ := hrel
    by_cases hlt : k < S1.size
    · have hbyte := HLa.out k hlt
      have hstep := may_at hbyte
      cases bo with
      | false =>
        have HR2 : Hid (false = ((a.take (k + 1)).all xMay)) := by
          show _ = _
          have := HR.out
          rw [hstep]
          revert this
          generalize (a.take k).all xMay = u
          generalize xMay S1[k] = v
          intro h
          revert h; cases u <;> cases v <;> simp
        clear hbyte hstep HR
        go_wp2_with fail
        go_roundg (gk - 1)
        case measure => omega
        case rel => exact ⟨k + 1, false, rfl, by omega, rfl, rfl, HR2⟩
      | true =>
        have HRT := HR.out
        rcases may_ways S1[k] with ⟨m1, m2⟩ | ⟨m1, m3, m2⟩ | ⟨m1, m3, m2⟩ | ⟨m1, m3, m2⟩ | ⟨m1, m3, m4, m5, m2⟩
        · have HR2 : Hid (true = ((a.take (k + 1)).all xMay)) := by
            show _ = _
            rw [hstep, m2]
            revert HRT
            generalize (a.take k).all xMay = u
            intro h
            revert h; cases u <;> simp
          have t32 : (32 : Int) ≤ (S1[k].toNat : Int) := by omega
          have t32b : ¬ (S1[k].toNat : Int) < 32 := by omega
          clear m1 m2 HRT HR hbyte hstep
          go_wp2_with fail
          go_roundg (gk - 1)
          case measure => omega
          case rel => exact ⟨k + 1, true, rfl, by omega, rfl, rfl, HR2⟩
        · have HR2 : Hid (true = ((a.take (k + 1)).all xMay)) := by
            show _ = _
            rw [hstep, m2]
            revert HRT
            generalize (a.take k).all xMay = u
            intro h
            revert h; cases u <;> simp
          have t32 : ¬ (32 : Int) ≤ (S1[k].toNat : Int) := by omega
          have t32b : (S1[k].toNat : Int) < 32 := by omega
          have t9 : ((S1[k].toNat : Int) == 9) = true := by rw [m3]; rfl
          have t10 : ((S1[k].toNat : Int) == 10) = false := by rw [m3]; rfl
          have t13 : ((S1[k].toNat : Int) == 13) = false := by rw [m3]; rfl
          clear m1 m2 m3 HRT HR hbyte hstep
          go_wp2_with fail
          go_roundg (gk - 1)
          case measure => omega
          case rel => exact ⟨k + 1, true, rfl, by omega, rfl, rfl, HR2⟩
        · have HR2 : Hid (true = ((a.take (k + 1)).all xMay)) := by
            show _ = _
            rw [hstep, m2]
            revert HRT
            generalize (a.take k).all xMay = u
            intro h
            revert h; cases u <;> simp
          have t32 : ¬ (32 : Int) ≤ (S1[k].toNat : Int) := by omega
          have t32b : (S1[k].toNat : Int) < 32 := by omega
          have t9 : ((S1[k].toNat : Int) == 9) = false := by rw [m3]; rfl
          have t10 : ((S1[k].toNat : Int) == 10) = true := by rw [m3]; rfl
          have t13 : ((S1[k].toNat : Int) == 13) = false := by rw [m3]; rfl
          clear m1 m2 m3 HRT HR hbyte hstep
          go_wp2_with fail
          go_roundg (gk - 1)
          case measure => omega
          case rel => exact ⟨k + 1, true, rfl, by omega, rfl, rfl, HR2⟩
        · have HR2 : Hid (true = ((a.take (k + 1)).all xMay)) := by
            show _ = _
            rw [hstep, m2]
            revert HRT
            generalize (a.take k).all xMay = u
            intro h
            revert h; cases u <;> simp
          have t32 : ¬ (32 : Int) ≤ (S1[k].toNat : Int) := by omega
          have t32b : (S1[k].toNat : Int) < 32 := by omega
          have t9 : ((S1[k].toNat : Int) == 9) = false := by rw [m3]; rfl
          have t10 : ((S1[k].toNat : Int) == 10) = false := by rw [m3]; rfl
          have t13 : ((S1[k].toNat : Int) == 13) = true := by rw [m3]; rfl
          clear m1 m2 m3 HRT HR hbyte hstep
          go_wp2_with fail
          go_roundg (gk - 1)
          case measure => omega
          case rel => exact ⟨k + 1, true, rfl, by omega, rfl, rfl, HR2⟩
        · have HR2 : Hid (false = ((a.take (k + 1)).all xMay)) := by
            show _ = _
            rw [hstep, m2]
            revert HRT
            generalize (a.take k).all xMay = u
            intro h
            revert h; cases u <;> simp
          have t32 : ¬ (32 : Int) ≤ (S1[k].toNat : Int) := by omega
          have t32b : (S1[k].toNat : Int) < 32 := by omega
          have t9 : ((S1[k].toNat : Int) == 9) = false := by rw [beq_eq_false_iff_ne]; omega
          have t10 : ((S1[k].toNat : Int) == 10) = false := by rw [beq_eq_false_iff_ne]; omega
          have t13 : ((S1[k].toNat : Int) == 13) = false := by rw [beq_eq_false_iff_ne]; omega
          clear m1 m2 m3 m4 m5 HRT HR hbyte hstep
          go_wp2_with fail
          go_roundg (gk - 1)
          case measure => omega
          case rel => exact ⟨k + 1, false, rfl, by omega, rfl, rfl, HR2⟩
    · have hk : a.take k = a := List.take_of_length_le (by rw [HSa.out]; omega)
      have HBA : Hid (bo = a.all xMay) := by
        have := HR.out
        rw [hk] at this
        exact this
      clear HR hk
      go_wp2_with fail
      obtain ⟨Nb, hNb⟩ : ∃ N, N = S2.size := ⟨_, rfl⟩
      go_loopg [6, 9, 10] Nb (fun gk v6 v7 v8 wx => ∃ (k : Nat) (bo : Bool), w1 = wx ∧ k + gk = Nb ∧ v6 = .bool bo ∧ v7 = .int .i64 (k : Int) ∧ Hid (bo = (a.all xMay && (b.take k).all xMay)))
      case atStart => exact ⟨0, bo, rfl, by omega, rfl, rfl, by show _ = _; simp [HBA.out]⟩
      case round =>
        obtain ⟨k, bo, rfl, hkg, rfl, rfl, HR⟩ := hrel
        by_cases hlt : k < S2.size
        · have hbyte := HLb.out k hlt
          have hstep := may_at hbyte
          cases bo with
          | false =>
            have HR2 : Hid (false = (a.all xMay && (b.take (k + 1)).all xMay)) := by
              show _ = _
              have := HR.out
              rw [hstep]
              revert this
              generalize (b.take k).all xMay = u
              generalize xMay S2[k] = v
              intro h
              revert h; generalize a.all xMay = x; cases x <;> cases u <;> cases v <;> simp
            clear hbyte hstep HR
            go_wp2_with fail
            go_roundg (gk - 1)
            case measure => omega
            case rel => exact ⟨k + 1, false, rfl, by omega, rfl, rfl, HR2⟩
          | true =>
            have HRT := HR.out
            rcases may_ways S2[k] with ⟨m1, m2⟩ | ⟨m1, m3, m2⟩ | ⟨m1, m3, m2⟩ | ⟨m1, m3, m2⟩ | ⟨m1, m3, m4, m5, m2⟩
            · have HR2 : Hid (true = (a.all xMay && (b.take (k + 1)).all xMay)) := by
                show _ = _
                rw [hstep, m2]
                revert HRT
                generalize (b.take k).all xMay = u
                intro h
                revert h; generalize a.all xMay = x; cases x <;> cases u <;> simp
              have t32 : (32 : Int) ≤ (S2[k].toNat : Int) := by omega
              have t32b : ¬ (S2[k].toNat : Int) < 32 := by omega
              clear m1 m2 HRT HR hbyte hstep
              go_wp2_with fail
              go_roundg (gk - 1)
              case measure => omega
              case rel => exact ⟨k + 1, true, rfl, by omega, rfl, rfl, HR2⟩
            · have HR2 : Hid (true = (a.all xMay && (b.take (k + 1)).all xMay)) := by
                show _ = _
                rw [hstep, m2]
                revert HRT
                generalize (b.take k).all xMay = u
                intro h
                revert h; generalize a.all xMay = x; cases x <;> cases u <;> simp
              have t32 : ¬ (32 : Int) ≤ (S2[k].toNat : Int) := by omega
              have t32b : (S2[k].toNat : Int) < 32 := by omega
              have t9 : ((S2[k].toNat : Int) == 9) = true := by rw [m3]; rfl
              have t10 : ((S2[k].toNat : Int) == 10) = false := by rw [m3]; rfl
              have t13 : ((S2[k].toNat : Int) == 13) = false := by rw [m3]; rfl
              clear m1 m2 m3 HRT HR hbyte hstep
              go_wp2_with fail
              go_roundg (gk - 1)
              case measure => omega
              case rel => exact ⟨k + 1, true, rfl, by omega, rfl, rfl, HR2⟩
            · have HR2 : Hid (true = (a.all xMay && (b.take (k + 1)).all xMay)) := by
                show _ = _
                rw [hstep, m2]
                revert HRT
                generalize (b.take k).all xMay = u
                intro h
                revert h; generalize a.all xMay = x; cases x <;> cases u <;> simp
              have t32 : ¬ (32 : Int) ≤ (S2[k].toNat : Int) := by omega
              have t32b : (S2[k].toNat : Int) < 32 := by omega
              have t9 : ((S2[k].toNat : Int) == 9) = false := by rw [m3]; rfl
              have t10 : ((S2[k].toNat : Int) == 10) = true := by rw [m3]; rfl
              have t13 : ((S2[k].toNat : Int) == 13) = false := by rw [m3]; rfl
              clear m1 m2 m3 HRT HR hbyte hstep
              go_wp2_with fail
              go_roundg (gk - 1)
              case measure => omega
              case rel => exact ⟨k + 1, true, rfl, by omega, rfl, rfl, HR2⟩
            · have HR2 : Hid (true = (a.all xMay && (b.take (k + 1)).all xMay)) := by
                show _ = _
                rw [hstep, m2]
                revert HRT
                generalize (b.take k).all xMay = u
                intro h
                revert h; generalize a.all xMay = x; cases x <;> cases u <;> simp
              have t32 : ¬ (32 : Int) ≤ (S2[k].toNat : Int) := by omega
              have t32b : (S2[k].toNat : Int) < 32 := by omega
              have t9 : ((S2[k].toNat : Int) == 9) = false := by rw [m3]; rfl
              have t10 : ((S2[k].toNat : Int) == 10) = false := by rw [m3]; rfl
              have t13 : ((S2[k].toNat : Int) == 13) = true := by rw [m3]; rfl
              clear m1 m2 m3 HRT HR hbyte hstep
              go_wp2_with fail
              go_roundg (gk - 1)
              case measure => omega
              case rel => exact ⟨k + 1, true, rfl, by omega, rfl, rfl, HR2⟩
            · have HR2 : Hid (false = (a.all xMay && (b.take (k + 1)).all xMay)) := by
                show _ = _
                rw [hstep, m2]
                revert HRT
                generalize (b.take k).all xMay = u
                intro h
                revert h; generalize a.all xMay = x; cases x <;> cases u <;> simp
              have t32 : ¬ (32 : Int) ≤ (S2[k].toNat : Int) := by omega
              have t32b : (S2[k].toNat : Int) < 32 := by omega
              have t9 : ((S2[k].toNat : Int) == 9) = false := by rw [beq_eq_false_iff_ne]; omega
              have t10 : ((S2[k].toNat : Int) == 10) = false := by rw [beq_eq_false_iff_ne]; omega
              have t13 : ((S2[k].toNat : Int) == 13) = false := by rw [beq_eq_false_iff_ne]; omega
              clear m1 m2 m3 m4 m5 HRT HR hbyte hstep
              go_wp2_with fail
              go_roundg (gk - 1)
              case measure => omega
              case rel => exact ⟨k + 1, false, rfl, by omega, rfl, rfl, HR2⟩
        · have hk : b.take k = b := List.take_of_length_le (by rw [HSb.out]; omega)
          have HGD : Hid (bo = (a.all xMay && b.all xMay)) := by
            have := HR.out
            rw [hk] at this
            exact this
          clear HR hk HBA
          go_wp2_with fail
          refine (CEa.out _ HB1.out).mono ?_
          rintro e w2 ⟨rfl, hb⟩
          have HB2 := Lib.hid (HB1.out.trans (hb.mono HB1.out.size))
          clear hb
          go_wp2_with fail
          refine (CEb.out _ HB2.out).mono ?_
          rintro e w3 ⟨rfl, hb⟩
          have HB3 := Lib.hid (HB2.out.trans (hb.mono HB2.out.size))
          clear hb
          go_wp2_with fail
          refine (C_.out _ HB3.out).mono ?_
          rintro e w4 ⟨A1, c1, rfl, hp, hl, hm, hb⟩
          have HP1 := Lib.hid hp
          have HL1 := Lib.hid hl
          have HM1 := Lib.hid hm
          have HB4 := Lib.hid (HB3.out.trans (hb.mono HB3.out.size))
          clear hb hp hl hm C_ CEa CEb
          unfold maxLen at HM1
          cases bo with
          | false =>
            have h103 : e0 = 103 := HN.out (fun h => by have := HGD.out; rw [h.1, h.2] at this; cases this)
            subst h103
            clear HN HG HGD
            go_wp2_with fail
            go_ret
            exact ⟨rfl, HB4.out⟩
          | true =>
            have hga : a.all xMay = true := by have := HGD.out; revert this; cases a.all xMay <;> simp
            have hgb : b.all xMay = true := by have := HGD.out; revert this; cases b.all xMay <;> simp
            have hX := HG.out hga hgb
            injection hX with hX1 hX2
            subst hX2
            clear HN HG HGD hga hgb
            by_cases ht : b = []
            · subst ht
              have hS2 : S2 = ⟨#[]⟩ := HS2.out
              subst hS2
              have tn : ((⟨#[]⟩ : ByteArray).toList == ([] : List UInt8)) = true := by first | rfl | kernel_rfl | decide +kernel
              have hX3 : ps = [startP [97] [([98], a)], endP_ [97]] := by rw [hX1]; unfold textP; rw [if_pos rfl]; rfl
              clear hX1
              obtain ⟨w5, hw5⟩ : ∃ w5, w5 = (w4.alloc (.cells (wantEA S1) 29)).alloc (.cells (wantEP w4.heap.size ⟨#[]⟩) 32) := ⟨_, rfl⟩
              have hb5 : Below w4.heap.size w4 w5 := by rw [hw5]; exact ((Below.refl _ _).alloc (Nat.le_refl _) _).alloc (by simp) _
              have hA5 : Blk w5 w4.heap.size 29 (wantEA (mkS a)) := by rw [hw5, ← HS1.out]; exact (Blk.new _ _ _).alloc _
              have hP5 : Blk w5 (w4.heap.size + 1) 32 (wantEP w4.heap.size ⟨#[]⟩) := by rw [hw5]; exact Blk.new' (by simp)
              have HP5 := Lib.hid hP5
              have HCS : Hid (∀ w6, Below w5.heap.size w5 w6 → Blk w6 w5.heap.size 32 (wantEQ w4.heap.size) → Calls Tryz.prog 11 #[.slice A1 ps.length c1, .slice (some ⟨w5.heap.size, 0, none⟩) 2 2] w6 fun e w' => (∃ r, e = .returned (.bool r) ∧ (r = true ↔ ps = [startP [97] [([98], a)], endP_ [97]])) ∧ Below w6.heap.size w6 w') := fun w6 hb6 hQ =>
                same_pcs w6 A1 (some ⟨w5.heap.size, 0, none⟩) ps [startP [97] [([98], a)], endP_ [97]] c1 2 ((HP1.out.below hb5).below hb6) (want_empty (hA5.below hb6 hA5.lt) hQ) HL1.out (Nat.le_refl _) (by unfold maxLen; exact HM1.out) (by unfold maxLen; omega)
              have HB5 := Lib.hid (HB4.out.trans (hb5.mono HB4.out.size))
              have HX3 := Lib.hid hX3
              clear hb5 hA5 hP5 HP1 HL1 hX3
              unfold wantEA wantEP mkS at hw5
              go_upto_region 19 with fail
              rw [← hw5]
              clear hw5
              have K := HP5.out
              unfold wantEP mkS at K
              have q0 := K.cell 0
              have q1 := K.cell 1
              have q2 := K.cell 2
              have q3 := K.cell 3
              have q8 := K.cell 8
              have q9 := K.cell 9
              have q10 := K.cell 10
              have q11 := K.cell 11
              simp at q0 q1 q2 q3 q8 q9 q10 q11
              clear K
              go_upto_region 20 with fail
              have HCS2 := Lib.hid (HCS.out ((w5.alloc (.cells (wantEQ w4.heap.size) 32)).drew) (below_drewN' (n := 1) ((Below.refl _ _).alloc (Nat.le_refl _) _)) (Blk.new _ _ _).drew)
              have hb6 : Below w5.heap.size w5 ((w5.alloc (.cells (wantEQ w4.heap.size) 32)).drew) := below_drewN' (n := 1) ((Below.refl _ _).alloc (Nat.le_refl _) _)
              have HB6 := Lib.hid (HB5.out.trans (hb6.mono HB5.out.size))
              clear hb6 HCS HP5
              unfold wantEQ mkS at HCS2 HB6
              go_region
              go_wp2_with fail
              refine HCS2.out.mono ?_
              rintro e w7 ⟨⟨r, rfl, hr⟩, hb7⟩
              have hr1 : r = true := hr.2 HX3.out
              subst hr1
              have HB7 := Lib.hid (HB6.out.trans (hb7.mono HB6.out.size))
              clear hb7 hr HCS2
              go_wp2_with fail
              go_ret
              exact ⟨rfl, HB7.out⟩
            · have tn : (S2.toList == ([] : List UInt8)) = false := by rw [HS2.out]; exact str_none ht
              have hX3 : ps = [startP [97] [([98], a)], ⟨3, [], [], b⟩, endP_ [97]] := by rw [hX1]; unfold textP; rw [if_neg ht]; rfl
              clear hX1 ht
              obtain ⟨w5, hw5⟩ : ∃ w5, w5 = (w4.alloc (.cells (wantEA S1) 29)).alloc (.cells (wantEP w4.heap.size S2) 32) := ⟨_, rfl⟩
              have hb5 : Below w4.heap.size w4 w5 := by rw [hw5]; exact ((Below.refl _ _).alloc (Nat.le_refl _) _).alloc (by simp) _
              have hA5 : Blk w5 w4.heap.size 29 (wantEA (mkS a)) := by rw [hw5, ← HS1.out]; exact (Blk.new _ _ _).alloc _
              have hP5 : Blk w5 (w4.heap.size + 1) 32 (wantEP w4.heap.size (mkS b)) := by rw [hw5, ← HS2.out]; exact Blk.new' (by simp)
              have CS := Lib.hid (same_pcs w5 A1 (some ⟨w4.heap.size + 1, 0, none⟩) ps [startP [97] [([98], a)], ⟨3, [], [], b⟩, endP_ [97]] c1 3 (HP1.out.below hb5) (want_full hA5 hP5) HL1.out (Nat.le_refl _) (by unfold maxLen; exact HM1.out) (by unfold maxLen; omega))
              have HB5 := Lib.hid (HB4.out.trans (hb5.mono HB4.out.size))
              have hlen : [startP [97] [([98], a)], ⟨3, [], [], b⟩, endP_ [97]].length = 3 := rfl
              rw [hlen] at CS
              clear hb5 hA5 hP5 hlen HP1 HL1
              have HX3 := Lib.hid hX3
              clear hX3
              unfold wantEA wantEP mkS at hw5
              go_upto_region 19 with fail
              rw [← hw5]
              clear hw5
              go_wp2_with fail
              refine CS.out.mono ?_
              rintro e w6 ⟨⟨r, rfl, hr⟩, hb6⟩
              have hr1 : r = true := hr.2 HX3.out
              subst hr1
              have HB6 := Lib.hid (HB5.out.trans (hb6.mono HB5.out.size))
              clear hb6 hr CS
              go_wp2_with fail
              go_ret
              exact ⟨rfl, HB6.out⟩
end Go.Proofs.YtoifibnmincodaaGreatDoor
