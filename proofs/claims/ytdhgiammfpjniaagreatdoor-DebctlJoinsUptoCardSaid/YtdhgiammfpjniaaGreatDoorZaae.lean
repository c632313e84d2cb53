/- The sign that a text begins with: comparison. -/
import Derived.Test.YtdhgiammfpjniaaGreatDoorZaad
import Derived.Deep.LoopGhost
/- The sign that a text begins with: comparison. -/
namespace Go.Proofs.YtdhgiammfpjniaaGreatDoor
set_option linter.unusedSimpArgs false
set_option linter.unusedVariables false
open Go.RowKit

def sgs : List Bs := [[], [60, 60], [61], [60, 61], [62, 62], [], [62, 61], []]
def sgCs : Array Value := #[.string ⟨#[]⟩, .string ⟨#[60, 60]⟩, .string ⟨#[61]⟩, .string ⟨#[60, 61]⟩, .string ⟨#[62, 62]⟩, .string ⟨#[]⟩, .string ⟨#[62, 61]⟩, .string ⟨#[]⟩]
def SgnAt (w : World) : Prop := ∃ t, Blk w 4 t sgCs
theorem SgnAt.turned {w w' : World} {F : List Nat} (h : SgnAt w) (ht : Turned F w w') (hF : 4 ∉ F) : SgnAt w' := by
  obtain ⟨t, h⟩ := h
  exact ⟨t, h.turned ht hF⟩
theorem SgnAt.below' {w w' : World} (h : SgnAt w) (hb : Below w.heap.size w w') : SgnAt w' := h.turned (Turned.of_below hb []) (by simp)
def compF (t : Bs) : List Bs → Nat → Int × Bs
  | [], _ => (0, t)
  | s :: r, i => if Lib.hasPrefix t s = true ∧ s ≠ [] then ((i : Int), dL (Lib.trimPrefix t s)) else compF t r (i + 1)
def compX (l : Bs) : Int × Bs := compF (dL l) sgs 0
theorem compF_len (t : Bs) : ∀ (l : List Bs) (i : Nat), (compF t l i).2.length ≤ t.length
  | [], _ => Nat.le_refl _
  | s :: r, i => by
    unfold compF
    split
    · exact Nat.le_trans (dL_len _) (trim_len t s)
    · exact compF_len t r (i + 1)
theorem compX_len (l : Bs) : (compX l).2.length ≤ l.length := Nat.le_trans (compF_len _ _ _) (dL_len _)
set_option maxHeartbeats 8000000 in
set_option maxRecDepth 1000000 in
theorem comparison_any (l : Bs) (hl : l.length ≤ 200000) (w : World) (hS : SgnAt w) :
    Calls Tryz.prog 168 #[.string (mkS l)] w fun e w' => e = .returned (.tuple #[.int .i64 (compX l).1, .string (mkS (compX l).2)]) ∧ Below w.heap.size w w' := by
  have C := Lib.hid (dTrimLeft_any l hl w)
  have HS := Lib.hid hS
  obtain ⟨t, ht⟩ : ∃ t, t = dL l := ⟨_, rfl⟩
  have htl : t.length ≤ 200000 := by rw [ht]; exact Nat.le_trans (dL_len l) hl
  have HX : Hid (compX l = compF t sgs 0) := by show compF (dL l) sgs 0 = _; rw [ht]
  rw [← ht] at C
  generalize compX l = X at *
  obtain ⟨Xn, Xb⟩ := X
  have CT := Lib.hid (fun (s : Bs) (w : World) => dTrimLeft_any (Lib.trimPrefix t s) (Nat.le_trans (trim_len t s) htl) w)
  have CP := Lib.hid (fun (s : Bs) (w : World) => Tryz.strings_CutPrefix (mkS t) (mkS s) w)
  simp only [mkS_list] at CP
  have hlay : Hid (mkS dLayS = ⟨#[32, 9]⟩) := rfl
  rw [hlay.out] at CT C
  clear ht hS hl htl hlay
  have ix0 : ∀ w, (Instr.index 145 (.agg #[.string ⟨#[]⟩, .string ⟨#[60, 60]⟩, .string ⟨#[61]⟩, .string ⟨#[60, 61]⟩, .string ⟨#[62, 62]⟩, .string ⟨#[]⟩, .string ⟨#[62, 61]⟩, .string ⟨#[]⟩]) (.int .i64 0)).run Tryz.prog w = .ok (.string ⟨#[]⟩) w := fun _ => by kernel_rfl
  have ix1 : ∀ w, (Instr.index 145 (.agg #[.string ⟨#[]⟩, .string ⟨#[60, 60]⟩, .string ⟨#[61]⟩, .string ⟨#[60, 61]⟩, .string ⟨#[62, 62]⟩, .string ⟨#[]⟩, .string ⟨#[62, 61]⟩, .string ⟨#[]⟩]) (.int .i64 1)).run Tryz.prog w = .ok (.string ⟨#[60, 60]⟩) w := fun _ => by kernel_rfl
  have ix2 : ∀ w, (Instr.index 145 (.agg #[.string ⟨#[]⟩, .string ⟨#[60, 60]⟩, .string ⟨#[61]⟩, .string ⟨#[60, 61]⟩, .string ⟨#[62, 62]⟩, .string ⟨#[]⟩, .string ⟨#[62, 61]⟩, .string ⟨#[]⟩]) (.int .i64 2)).run Tryz.prog w = .ok (.string ⟨#[61]⟩) w := fun _ => by kernel_rfl
  have ix3 : ∀ w, (Instr.index 145 (.agg #[.string ⟨#[]⟩, .string ⟨#[60, 60]⟩, .string ⟨#[61]⟩, .string ⟨#[60, 61]⟩, .string ⟨#[62, 62]⟩, .string ⟨#[]⟩, .string ⟨#[62, 61]⟩, .string ⟨#[]⟩]) (.int .i64 3)).run Tryz.prog w = .ok (.string ⟨#[60, 61]⟩) w := fun _ => by kernel_rfl
  have ix4 : ∀ w, (Instr.index 145 (.agg #[.string ⟨#[]⟩, .string ⟨#[60, 60]⟩, .string ⟨#[61]⟩, .string ⟨#[60, 61]⟩, .string ⟨#[62, 62]⟩, .string ⟨#[]⟩, .string ⟨#[62, 61]⟩, .string ⟨#[]⟩]) (.int .i64 4)).run Tryz.prog w = .ok (.string ⟨#[62, 62]⟩) w := fun _ => by kernel_rfl
  have ix5 : ∀ w, (Instr.index 145 (.agg #[.string ⟨#[]⟩, .string ⟨#[60, 60]⟩, .string ⟨#[61]⟩, .string ⟨#[60, 61]⟩, .string ⟨#[62, 62]⟩, .string ⟨#[]⟩, .string ⟨#[62, 61]⟩, .string ⟨#[]⟩]) (.int .i64 5)).run Tryz.prog w = .ok (.string ⟨#[]⟩) w := fun _ => by kernel_rfl
  have ix6 : ∀ w, (Instr.index 145 (.agg #[.string ⟨#[]⟩, .string ⟨#[60, 60]⟩, .string ⟨#[61]⟩, .string ⟨#[60, 61]⟩, .string ⟨#[62, 62]⟩, .string ⟨#[]⟩, .string ⟨#[62, 61]⟩, .string ⟨#[]⟩]) (.int .i64 6)).run Tryz.prog w = .ok (.string ⟨#[62, 61]⟩) w := fun _ => by kernel_rfl
  have ix7 : ∀ w, (Instr.index 145 (.agg #[.string ⟨#[]⟩, .string ⟨#[60, 60]⟩, .string ⟨#[61]⟩, .string ⟨#[60, 61]⟩, .string ⟨#[62, 62]⟩, .string ⟨#[]⟩, .string ⟨#[62, 61]⟩, .string ⟨#[]⟩]) (.int .i64 7)).run Tryz.prog w = .ok (.string ⟨#[]⟩) w := fun _ => by kernel_rfl
  have tn0 : ((⟨#[]⟩ : ByteArray).toList != ([] : List UInt8)) = false := by decide +kernel
  have tn1 : ((⟨#[60, 60]⟩ : ByteArray).toList != ([] : List UInt8)) = true := by decide +kernel
  have tn2 : ((⟨#[61]⟩ : ByteArray).toList != ([] : List UInt8)) = true := by decide +kernel
  have tn3 : ((⟨#[60, 61]⟩ : ByteArray).toList != ([] : List UInt8)) = true := by decide +kernel
  have tn4 : ((⟨#[62, 62]⟩ : ByteArray).toList != ([] : List UInt8)) = true := by decide +kernel
  have tn5 : ((⟨#[]⟩ : ByteArray).toList != ([] : List UInt8)) = false := by decide +kernel
  have tn6 : ((⟨#[62, 61]⟩ : ByteArray).toList != ([] : List UInt8)) = true := by decide +kernel
  have tn7 : ((⟨#[]⟩ : ByteArray).toList != ([] : List UInt8)) = false := by decide +kernel
  generalize mkS l = L at *
  go_enter Tryz.func168, Tryz.ntmps168
  go_wp2_with fail
  refine C.out.mono ?_
  rintro e w1 ⟨rfl, hb1⟩
  have HB := Lib.hid hb1
  obtain ⟨t0, hB⟩ := HS.out.below' hb1
  have c0 := hB.cell 0
  have c1 := hB.cell 1
  have c2 := hB.cell 2
  have c3 := hB.cell 3
  have c4 := hB.cell 4
  have c5 := hB.cell 5
  have c6 := hB.cell 6
  have c7 := hB.cell 7
  unfold sgCs at c0 c1 c2 c3 c4 c5 c6 c7
  simp at c0 c1 c2 c3 c4 c5 c6 c7
  clear hB hb1 C HS
  go_wp2_with fail
  clear c0 c1 c2 c3 c4 c5 c6 c7
  go_loopg [4, 5, 6, 7, 11] 8 (fun gk v4 v5 v6 v7 v11 wx => ∃ k : Nat, k + gk = 8 ∧ v11 = .int .i64 (k : Int) ∧ Hid ((Xn, Xb) = compF t (sgs.drop k) k) ∧ Hid (Below w.heap.size w wx))
  case atStart => exact ⟨0, by omega, rfl, HX, HB⟩
  case round =>
    obtain ⟨k, hkg, rfl, HN, HBr⟩ := hrel
    have hk' : k = 0 ∨ k = 1 ∨ k = 2 ∨ k = 3 ∨ k = 4 ∨ k = 5 ∨ k = 6 ∨ k = 7 ∨ k = 8 := by omega
    have HKG := Lib.hid hkg
    clear hkg HX HB
    rcases hk' with rfl | rfl | rfl | rfl | rfl | rfl | rfl | rfl | rfl
    · clear ix1 tn1 ix2 tn2 ix3 tn3 ix4 tn4 ix5 tn5 ix6 tn6 ix7 tn7
      have CPi := Lib.hid (CP.out [] )
      have HV : Hid ((Xn, Xb) = compF t (sgs.drop 1) 1) := HN.out.trans (if_neg (fun h => h.2 rfl))
      have hq : (mkS ([] : Bs)) = ⟨#[]⟩ := rfl
      rw [hq] at CPi
      clear CP CT HN hq
      generalize Lib.hasPrefix t [] = hp at *
      cases hp with
      | true =>
        go_wp2_with fail
        refine (CPi.out _).mono ?_
        rintro e w2 ⟨rfl, rfl⟩
        clear CPi
        go_wp2_with fail
        go_roundg (gk - 1)
        case measure => have := HKG.out; omega
        case rel => exact ⟨1, by have := HKG.out; omega, rfl, HV, HBr⟩
      | false =>
        go_wp2_with fail
        refine (CPi.out _).mono ?_
        rintro e w2 ⟨rfl, rfl⟩
        clear CPi
        go_wp2_with fail
        go_roundg (gk - 1)
        case measure => have := HKG.out; omega
        case rel => exact ⟨1, by have := HKG.out; omega, rfl, HV, HBr⟩
    · clear ix0 tn0 ix2 tn2 ix3 tn3 ix4 tn4 ix5 tn5 ix6 tn6 ix7 tn7
      have CPi := Lib.hid (CP.out [60, 60])
      have CTi := Lib.hid (CT.out [60, 60])
      have HV0 : Hid (Lib.hasPrefix t [60, 60] = false → (Xn, Xb) = compF t (sgs.drop 2) 2) := fun h => HN.out.trans (if_neg (fun h2 => by rw [h] at h2; exact absurd h2.1 (by simp)))
      have HV1 : Hid (Lib.hasPrefix t [60, 60] = true → (Xn, Xb) = ((1 : Int), dL (Lib.trimPrefix t [60, 60]))) := fun h => HN.out.trans (if_pos ⟨h, by simp⟩)
      have hq : (mkS ([60, 60] : Bs)) = ⟨#[60, 60]⟩ := rfl
      rw [hq] at CPi
      clear CP CT HN hq
      generalize Lib.hasPrefix t [60, 60] = hp at *
      cases hp with
      | true =>
        have HV := Lib.hid (HV1.out rfl)
        clear HV0 HV1
        go_wp2_with fail
        refine (CPi.out _).mono ?_
        rintro e w2 ⟨rfl, rfl⟩
        clear CPi
        go_wp2_with fail
        refine (CTi.out _).mono ?_
        rintro e w3 ⟨rfl, hb3⟩
        have HB3 := Lib.hid (HBr.out.trans (hb3.mono HBr.out.size))
        clear hb3 CTi
        go_wp2_with fail
        go_ret2
        have h1 := HV.out
        injection h1 with h1 h2
        exact ⟨by rw [h1, h2]; rfl, HB3.out⟩
      | false =>
        have HV := Lib.hid (HV0.out rfl)
        clear HV0 HV1 CTi
        go_wp2_with fail
        refine (CPi.out _).mono ?_
        rintro e w2 ⟨rfl, rfl⟩
        clear CPi
        go_wp2_with fail
        go_roundg (gk - 1)
        case measure => have := HKG.out; omega
        case rel => exact ⟨2, by have := HKG.out; omega, rfl, HV, HBr⟩
    · clear ix0 tn0 ix1 tn1 ix3 tn3 ix4 tn4 ix5 tn5 ix6 tn6 ix7 tn7
      have CPi := Lib.hid (CP.out [61])
      have CTi := Lib.hid (CT.out [61])
      have HV0 : Hid (Lib.hasPrefix t [61] = false → (Xn, Xb) = compF t (sgs.drop 3) 3) := fun h => HN.out.trans (if_neg (fun h2 => by rw [h] at h2; exact absurd h2.1 (by simp)))
      have HV1 : Hid (Lib.hasPrefix t [61] = true → (Xn, Xb) = ((2 : Int), dL (Lib.trimPrefix t [61]))) := fun h => HN.out.trans (if_pos ⟨h, by simp⟩)
      have hq : (mkS ([61] : Bs)) = ⟨#[61]⟩ := rfl
      rw [hq] at CPi
      clear CP CT HN hq
      generalize Lib.hasPrefix t [61] = hp at *
      cases hp with
      | true =>
        have HV := Lib.hid (HV1.out rfl)
        clear HV0 HV1
        go_wp2_with fail
        refine (CPi.out _).mono ?_
        rintro e w2 ⟨rfl, rfl⟩
        clear CPi
        go_wp2_with fail
        refine (CTi.out _).mono ?_
        rintro e w3 ⟨rfl, hb3⟩
        have HB3 := Lib.hid (HBr.out.trans (hb3.mono HBr.out.size))
        clear hb3 CTi
        go_wp2_with fail
        go_ret2
        have h1 := HV.out
        injection h1 with h1 h2
        exact ⟨by rw [h1, h2]; rfl, HB3.out⟩
      | false =>
        have HV := Lib.hid (HV0.out rfl)
        clear HV0 HV1 CTi
        go_wp2_with fail
        refine (CPi.out _).mono ?_
        rintro e w2 ⟨rfl, rfl⟩
        clear CPi
        go_wp2_with fail
        go_roundg (gk - 1)
        case measure => have := HKG.out; omega
        case rel => exact ⟨3, by have := HKG.out; omega, rfl, HV, HBr⟩
    · clear ix0 tn0 ix1 tn1 ix2 tn2 ix4 tn4 ix5 tn5 ix6 tn6 ix7 tn7
      have CPi := Lib.hid (CP.out [60, 61])
      have CTi := Lib.hid (CT.out [60, 61])
      have HV0 : Hid (Lib.hasPrefix t [60, 61] = false → (Xn, Xb) = compF t (sgs.drop 4) 4) := fun h => HN.out.trans (if_neg (fun h2 => by rw [h] at h2; exact absurd h2.1 (by simp)))
      have HV1 : Hid (Lib.hasPrefix t [60, 61] = true → (Xn, Xb) = ((3 : Int), dL (Lib.trimPrefix t [60, 61]))) := fun h => HN.out.trans (if_pos ⟨h, by simp⟩)
      have hq : (mkS ([60, 61] : Bs)) = ⟨#[60, 61]⟩ := rfl
      rw [hq] at CPi
      clear CP CT HN hq
      generalize Lib.hasPrefix t [60, 61] = hp at *
      cases hp with
      | true =>
        have HV := Lib.hid (HV1.out rfl)
        clear HV0 HV1
        go_wp2_with fail
        refine (CPi.out _).mono ?_
        rintro e w2 ⟨rfl, rfl⟩
        clear CPi
        go_wp2_with fail
        refine (CTi.out _).mono ?_
        rintro e w3 ⟨rfl, hb3⟩
        have HB3 := Lib.hid (HBr.out.trans (hb3.mono HBr.out.size))
        clear hb3 CTi
        go_wp2_with fail
        go_ret2
        have h1 := HV.out
        injection h1 with h1 h2
        exact ⟨by rw [h1, h2]; rfl, HB3.out⟩
      | false =>
        have HV := Lib.hid (HV0.out rfl)
        clear HV0 HV1 CTi
        go_wp2_with fail
        refine (CPi.out _).mono ?_
        rintro e w2 ⟨rfl, rfl⟩
        clear CPi
        go_wp2_with fail
        go_roundg (gk - 1)
        case measure => have := HKG.out; omega
        case rel => exact ⟨4, by have := HKG.out; omega, rfl, HV, HBr⟩
    · clear ix0 tn0 ix1 tn1 ix2 tn2 ix3 tn3 ix5 tn5 ix6 tn6 ix7 tn7
      have CPi := Lib.hid (CP.out [62, 62])
      have CTi := Lib.hid (CT.out [62, 62])
      have HV0 : Hid (Lib.hasPrefix t [62, 62] = false → (Xn, Xb) = compF t (sgs.drop 5) 5) := fun h => HN.out.trans (if_neg (fun h2 => by rw [h] at h2; exact absurd h2.1 (by simp)))
      have HV1 : Hid (Lib.hasPrefix t [62, 62] = true → (Xn, Xb) = ((4 : Int), dL (Lib.trimPrefix t [62, 62]))) := fun h => HN.out.trans (if_pos ⟨h, by simp⟩)
      have hq : (mkS ([62, 62] : Bs)) = ⟨#[62, 62]⟩ := rfl
      rw [hq] at CPi
      clear CP CT HN hq
      generalize Lib.hasPrefix t [62, 62] = hp at *
      cases hp with
      | true =>
        have HV := Lib.hid (HV1.out rfl)
        clear HV0 HV1
        go_wp2_with fail
        refine (CPi.out _).mono ?_
        rintro e w2 ⟨rfl, rfl⟩
        clear CPi
        go_wp2_with fail
        refine (CTi.out _).mono ?_
        rintro e w3 ⟨rfl, hb3⟩
        have HB3 := Lib.hid (HBr.out.trans (hb3.mono HBr.out.size))
        clear hb3 CTi
        go_wp2_with fail
        go_ret2
        have h1 := HV.out
        injection h1 with h1 h2
        exact ⟨by rw [h1, h2]; rfl, HB3.out⟩
      | false =>
        have HV := Lib.hid (HV0.out rfl)
        clear HV0 HV1 CTi
        go_wp2_with fail
        refine (CPi.out _).mono ?_
        rintro e w2 ⟨rfl, rfl⟩
        clear CPi
        go_wp2_with fail
        go_roundg (gk - 1)
        case measure => have := HKG.out; omega
        case rel => exact ⟨5, by have := HKG.out; omega, rfl, HV, HBr⟩
    · clear ix0 tn0 ix1 tn1 ix2 tn2 ix3 tn3 ix4 tn4 ix6 tn6 ix7 tn7
      have CPi := Lib.hid (CP.out [] )
      have HV : Hid ((Xn, Xb) = compF t (sgs.drop 6) 6) := HN.out.trans (if_neg (fun h => h.2 rfl))
      have hq : (mkS ([] : Bs)) = ⟨#[]⟩ := rfl
      rw [hq] at CPi
      clear CP CT HN hq
      generalize Lib.hasPrefix t [] = hp at *
      cases hp with
      | true =>
        go_wp2_with fail
        refine (CPi.out _).mono ?_
        rintro e w2 ⟨rfl, rfl⟩
        clear CPi
        go_wp2_with fail
        go_roundg (gk - 1)
        case measure => have := HKG.out; omega
        case rel => exact ⟨6, by have := HKG.out; omega, rfl, HV, HBr⟩
      | false =>
        go_wp2_with fail
        refine (CPi.out _).mono ?_
        rintro e w2 ⟨rfl, rfl⟩
        clear CPi
        go_wp2_with fail
        go_roundg (gk - 1)
        case measure => have := HKG.out; omega
        case rel => exact ⟨6, by have := HKG.out; omega, rfl, HV, HBr⟩
    · clear ix0 tn0 ix1 tn1 ix2 tn2 ix3 tn3 ix4 tn4 ix5 tn5 ix7 tn7
      have CPi := Lib.hid (CP.out [62, 61])
      have CTi := Lib.hid (CT.out [62, 61])
      have HV0 : Hid (Lib.hasPrefix t [62, 61] = false → (Xn, Xb) = compF t (sgs.drop 7) 7) := fun h => HN.out.trans (if_neg (fun h2 => by rw [h] at h2; exact absurd h2.1 (by simp)))
      have HV1 : Hid (Lib.hasPrefix t [62, 61] = true → (Xn, Xb) = ((6 : Int), dL (Lib.trimPrefix t [62, 61]))) := fun h => HN.out.trans (if_pos ⟨h, by simp⟩)
      have hq : (mkS ([62, 61] : Bs)) = ⟨#[62, 61]⟩ := rfl
      rw [hq] at CPi
      clear CP CT HN hq
      generalize Lib.hasPrefix t [62, 61] = hp at *
      cases hp with
      | true =>
        have HV := Lib.hid (HV1.out rfl)
        clear HV0 HV1
        go_wp2_with fail
        refine (CPi.out _).mono ?_
        rintro e w2 ⟨rfl, rfl⟩
        clear CPi
        go_wp2_with fail
        refine (CTi.out _).mono ?_
        rintro e w3 ⟨rfl, hb3⟩
        have HB3 := Lib.hid (HBr.out.trans (hb3.mono HBr.out.size))
        clear hb3 CTi
        go_wp2_with fail
        go_ret2
        have h1 := HV.out
        injection h1 with h1 h2
        exact ⟨by rw [h1, h2]; rfl, HB3.out⟩
      | false =>
        have HV := Lib.hid (HV0.out rfl)
        clear HV0 HV1 CTi
        go_wp2_with fail
        refine (CPi.out _).mono ?_
        rintro e w2 ⟨rfl, rfl⟩
        clear CPi
        go_wp2_with fail
        go_roundg (gk - 1)
        case measure => have := HKG.out; omega
        case rel => exact ⟨7, by have := HKG.out; omega, rfl, HV, HBr⟩
    · clear ix0 tn0 ix1 tn1 ix2 tn2 ix3 tn3 ix4 tn4 ix5 tn5 ix6 tn6
      have CPi := Lib.hid (CP.out [] )
      have HV : Hid ((Xn, Xb) = compF t (sgs.drop 8) 8) := HN.out.trans (if_neg (fun h => h.2 rfl))
      have hq : (mkS ([] : Bs)) = ⟨#[]⟩ := rfl
      rw [hq] at CPi
      clear CP CT HN hq
      generalize Lib.hasPrefix t [] = hp at *
      cases hp with
      | true =>
        go_wp2_with fail
        refine (CPi.out _).mono ?_
        rintro e w2 ⟨rfl, rfl⟩
        clear CPi
        go_wp2_with fail
        go_roundg (gk - 1)
        case measure => have := HKG.out; omega
        case rel => exact ⟨8, by have := HKG.out; omega, rfl, HV, HBr⟩
      | false =>
        go_wp2_with fail
        refine (CPi.out _).mono ?_
        rintro e w2 ⟨rfl, rfl⟩
        clear CPi
        go_wp2_with fail
        go_roundg (gk - 1)
        case measure => have := HKG.out; omega
        case rel => exact ⟨8, by have := HKG.out; omega, rfl, HV, HBr⟩
    · clear CP CT ix0 tn0 ix1 tn1 ix2 tn2 ix3 tn3 ix4 tn4 ix5 tn5 ix6 tn6 ix7 tn7
      go_wp2_with fail
      go_ret2
      have h1 : (Xn, Xb) = ((0 : Int), t) := HN.out
      injection h1 with h1 h2
      exact ⟨by rw [h1, h2]; rfl, HBr.out⟩
end Go.Proofs.YtdhgiammfpjniaaGreatDoor
