/- What an escaped byte is written as, and a text: the package's own. -/
import Derived.Test.YtoifibnmincodaaGreatDoorXesA
import Derived.Test.YtoifibnmincodaaGreatDoorBld
import Derived.Test.YtoifibnmincodaaGreatDoorXc
import Derived.Lib.AppendIntMem
import Derived.Deep.LoopGhost
namespace Go.Proofs.YtoifibnmincodaaGreatDoor
set_option linter.unusedSimpArgs false
set_option linter.unusedVariables false
open Go.RowKit

def lowN (c : UInt8) : Option Bs := if c.toNat < 32 then some (35 :: (if c.toNat < 10 then [48 + c] else [48 + c / 10, 48 + c % 10])) else none
def findC (c : UInt8) : List (Bs × UInt8) → Option Bs
  | [] => lowN c
  | e :: r => if e.2 = c then some e.1 else findC c r
theorem findC_eq (c : UInt8) : ∀ l : List (Bs × UInt8), (match l.find? (fun e => decide (e.2 = c)) with
    | some e => some e.1
    | none => lowN c) = findC c l
  | [] => rfl
  | e :: r => by
    rw [List.find?_cons, findC]
    by_cases h : e.2 = c
    · rw [if_pos h, decide_eq_true h]
    · rw [if_neg h, decide_eq_false h]
      exact findC_eq c r
theorem escN_find (c : UInt8) : escN c = findC c ents := findC_eq c ents
theorem low_dec (c : UInt8) : c.toNat < 32 → Lib.decDigits c.toNat = (if c.toNat < 10 then [48 + c] else [48 + c / 10, 48 + c % 10]) := by
  revert c
  refine all_u8 ?_
  decide +kernel
def PowA (w : World) : Prop := Lib.TabIs Tryz.prog w "internal/strconv.uint64pow10" .u64 Lib.pow10Tab
def entV (c : UInt8) : Value := .string (mkS ((escN c).getD []))
set_option maxHeartbeats 4000000 in
set_option maxRecDepth 100000 in
theorem entityOf_any (c : UInt8) {B : Nat} {w : World} (hE : XEnv B w) (hP : ∀ w', Below w.heap.size w w' → PowA w') :
    Calls Tryz.prog 17 #[.int .u8 (c.toNat : Int)] w fun e w' => e = .returned (entV c) ∧ Below w.heap.size w w' := by
  obtain ⟨t0, hB⟩ := hE.ents
  have c0 := hB.cell 0
  have c1 := hB.cell 1
  have c2 := hB.cell 2
  have c3 := hB.cell 3
  have c4 := hB.cell 4
  have c5 := hB.cell 5
  have c6 := hB.cell 6
  have c7 := hB.cell 7
  have c8 := hB.cell 8
  have c9 := hB.cell 9
  simp at c0 c1 c2 c3 c4 c5 c6 c7 c8 c9
  obtain ⟨a0, ha0⟩ : ∃ a, a = mkS [108, 116] := ⟨_, rfl⟩
  obtain ⟨a1, ha1⟩ : ∃ a, a = mkS [103, 116] := ⟨_, rfl⟩
  obtain ⟨a2, ha2⟩ : ∃ a, a = mkS [97, 109, 112] := ⟨_, rfl⟩
  obtain ⟨a3, ha3⟩ : ∃ a, a = mkS [113, 117, 111, 116] := ⟨_, rfl⟩
  obtain ⟨a4, ha4⟩ : ∃ a, a = mkS [97, 112, 111, 115] := ⟨_, rfl⟩
  rw [← ha0] at c0
  rw [← ha1] at c2
  rw [← ha2] at c4
  rw [← ha3] at c6
  rw [← ha4] at c8
  have ix0 : ∀ w, (Instr.index 80 (.agg #[.string a0, .int .u8 60, .string a1, .int .u8 62, .string a2, .int .u8 38, .string a3, .int .u8 34, .string a4, .int .u8 39]) (.int .i64 0)).run Tryz.prog w = .ok (.agg #[.string a0, .int .u8 60]) w := fun _ => by kernel_rfl
  have ix1 : ∀ w, (Instr.index 80 (.agg #[.string a0, .int .u8 60, .string a1, .int .u8 62, .string a2, .int .u8 38, .string a3, .int .u8 34, .string a4, .int .u8 39]) (.int .i64 1)).run Tryz.prog w = .ok (.agg #[.string a1, .int .u8 62]) w := fun _ => by kernel_rfl
  have ix2 : ∀ w, (Instr.index 80 (.agg #[.string a0, .int .u8 60, .string a1, .int .u8 62, .string a2, .int .u8 38, .string a3, .int .u8 34, .string a4, .int .u8 39]) (.int .i64 2)).run Tryz.prog w = .ok (.agg #[.string a2, .int .u8 38]) w := fun _ => by kernel_rfl
  have ix3 : ∀ w, (Instr.index 80 (.agg #[.string a0, .int .u8 60, .string a1, .int .u8 62, .string a2, .int .u8 38, .string a3, .int .u8 34, .string a4, .int .u8 39]) (.int .i64 3)).run Tryz.prog w = .ok (.agg #[.string a3, .int .u8 34]) w := fun _ => by kernel_rfl
  have ix4 : ∀ w, (Instr.index 80 (.agg #[.string a0, .int .u8 60, .string a1, .int .u8 62, .string a2, .int .u8 38, .string a3, .int .u8 34, .string a4, .int .u8 39]) (.int .i64 4)).run Tryz.prog w = .ok (.agg #[.string a4, .int .u8 39]) w := fun _ => by kernel_rfl
  have HF : Hid (escN c = findC c (ents.drop 0)) := escN_find c
  have HV0 : Hid (∀ n, escN c = some n → entV c = .string (mkS n)) := fun n h => by unfold entV; rw [h]; rfl
  have HVN : Hid (escN c = none → entV c = .string ⟨#[]⟩) := fun h => by unfold entV; rw [h]; rfl
  have CI : Hid (∀ w', Below w.heap.size w w' → c.toNat < 32 → Calls Tryz.prog 28 #[.int .i64 (c.toNat : Int)] w' fun e w'' => e = .returned (.string (mkS (Lib.decDigits c.toNat))) ∧ Below w'.heap.size w' w'') := fun w' hb hc =>
    (Tryz.strconv_Itoa c.toNat (by omega) (by omega) w' (hP w' hb)).mono fun e w'' ⟨he, k, os, hw⟩ => by
      subst hw
      rw [Lib.itoa_nonneg] at he
      exact ⟨he, Lib.below_grow _ w' (Nat.le_refl _) k os⟩
  have HD := Lib.hid (low_dec c)
  have HX0 : Hid (∀ x : Int, x = (c.toNat : Int) → (60 : UInt8) = c → ((60 : Int) == x) = true) := fun x hx h => by subst h; subst hx; decide
  have HX1 : Hid (∀ x : Int, x = (c.toNat : Int) → (62 : UInt8) = c → ((62 : Int) == x) = true) := fun x hx h => by subst h; subst hx; decide
  have HX2 : Hid (∀ x : Int, x = (c.toNat : Int) → (38 : UInt8) = c → ((38 : Int) == x) = true) := fun x hx h => by subst h; subst hx; decide
  have HX3 : Hid (∀ x : Int, x = (c.toNat : Int) → (34 : UInt8) = c → ((34 : Int) == x) = true) := fun x hx h => by subst h; subst hx; decide
  have HX4 : Hid (∀ x : Int, x = (c.toNat : Int) → (39 : UInt8) = c → ((39 : Int) == x) = true) := fun x hx h => by subst h; subst hx; decide
  have HY0 : Hid (∀ x : Int, x = (c.toNat : Int) → ¬ (60 : UInt8) = c → ((60 : Int) == x) = false) := fun x hx h => by subst hx; exact beq_eq_false_iff_ne.2 (fun e => h (UInt8.toNat_inj.1 (by have : ((60 : UInt8).toNat) = 60 := rfl; omega)))
  have HY1 : Hid (∀ x : Int, x = (c.toNat : Int) → ¬ (62 : UInt8) = c → ((62 : Int) == x) = false) := fun x hx h => by subst hx; exact beq_eq_false_iff_ne.2 (fun e => h (UInt8.toNat_inj.1 (by have : ((62 : UInt8).toNat) = 62 := rfl; omega)))
  have HY2 : Hid (∀ x : Int, x = (c.toNat : Int) → ¬ (38 : UInt8) = c → ((38 : Int) == x) = false) := fun x hx h => by subst hx; exact beq_eq_false_iff_ne.2 (fun e => h (UInt8.toNat_inj.1 (by have : ((38 : UInt8).toNat) = 38 := rfl; omega)))
  have HY3 : Hid (∀ x : Int, x = (c.toNat : Int) → ¬ (34 : UInt8) = c → ((34 : Int) == x) = false) := fun x hx h => by subst hx; exact beq_eq_false_iff_ne.2 (fun e => h (UInt8.toNat_inj.1 (by have : ((34 : UInt8).toNat) = 34 := rfl; omega)))
  have HY4 : Hid (∀ x : Int, x = (c.toNat : Int) → ¬ (39 : UInt8) = c → ((39 : Int) == x) = false) := fun x hx h => by subst hx; exact beq_eq_false_iff_ne.2 (fun e => h (UInt8.toNat_inj.1 (by have : ((39 : UInt8).toNat) = 39 := rfl; omega)))
  obtain ⟨x, hx⟩ : ∃ x : Int, x = (c.toNat : Int) := ⟨_, rfl⟩
  have hx0 : 0 ≤ x := by omega
  have hx1 : x ≤ 255 := by have := c.toNat_lt; omega
  have HXE := Lib.hid hx
  rw [← hx] at CI ⊢
  clear hx hE hB hP
  have HA0 := Lib.hid ha0
  have HA1 := Lib.hid ha1
  have HA2 := Lib.hid ha2
  have HA3 := Lib.hid ha3
  have HA4 := Lib.hid ha4
  clear ha0 ha1 ha2 ha3 ha4
  go_enter Tryz.func17, Tryz.ntmps17
  go_wp2_with fail
  go_loopg [4, 6] 5 (fun g s4 s6 wx => ∃ k : Nat, k + g = 5 ∧ s6 = .int .i64 (k : Int) ∧ Below w.heap.size w wx ∧ Hid (escN c = findC c (ents.drop k)))
  case atStart => exact ⟨0, by omega, rfl, Below.refl _ _, HF⟩
  case round =>
    obtain ⟨k, hkg, rfl, hbe, hn⟩ := hrel
    have HBE := Lib.hid hbe
    have hk' : k = 0 ∨ k = 1 ∨ k = 2 ∨ k = 3 ∨ k = 4 ∨ k = 5 := by omega
    have HKG := Lib.hid hkg
    clear hkg hbe HF
    rcases hk' with rfl | rfl | rfl | rfl | rfl | rfl
    · clear ix1 ix2 ix3 ix4 c0 c1 c2 c3 c4 c5 c6 c7 c8 c9
      have HB2 : Hid (∀ wx, Below w.heap.size w wx → Below w.heap.size w (wx.alloc (.cells #[.string a0, .int .u8 60] 79))) := fun wx h => h.alloc h.size _
      by_cases h : (60 : UInt8) = c
      · have t1 : ((60 : Int) == x) = true := HX0.out x HXE.out h
        have HV : Hid (entV c = .string a0) := by show entV c = _; rw [HA0.out]; exact HV0.out _ (hn.out.trans (if_pos h))
        clear h hn
        go_wp2_with fail
        go_ret
        exact ⟨by rw [HV.out]; rfl, HB2.out _ HBE.out⟩
      · have t1 : ((60 : Int) == x) = false := HY0.out x HXE.out h
        have HV : Hid (escN c = findC c (ents.drop 1)) := hn.out.trans (if_neg h)
        clear h hn
        go_wp2_with fail
        go_roundg (gk - 1)
        case measure => have := HKG.out; omega
        case rel => exact ⟨1, by have := HKG.out; omega, rfl, HB2.out _ HBE.out, HV⟩
    · clear ix0 ix2 ix3 ix4 c0 c1 c2 c3 c4 c5 c6 c7 c8 c9
      have HB2 : Hid (∀ wx, Below w.heap.size w wx → Below w.heap.size w (wx.alloc (.cells #[.string a1, .int .u8 62] 79))) := fun wx h => h.alloc h.size _
      by_cases h : (62 : UInt8) = c
      · have t1 : ((62 : Int) == x) = true := HX1.out x HXE.out h
        have HV : Hid (entV c = .string a1) := by show entV c = _; rw [HA1.out]; exact HV0.out _ (hn.out.trans (if_pos h))
        clear h hn
        go_wp2_with fail
        go_ret
        exact ⟨by rw [HV.out]; rfl, HB2.out _ HBE.out⟩
      · have t1 : ((62 : Int) == x) = false := HY1.out x HXE.out h
        have HV : Hid (escN c = findC c (ents.drop 2)) := hn.out.trans (if_neg h)
        clear h hn
        go_wp2_with fail
        go_roundg (gk - 1)
        case measure => have := HKG.out; omega
        case rel => exact ⟨2, by have := HKG.out; omega, rfl, HB2.out _ HBE.out, HV⟩
    · clear ix0 ix1 ix3 ix4 c0 c1 c2 c3 c4 c5 c6 c7 c8 c9
      have HB2 : Hid (∀ wx, Below w.heap.size w wx → Below w.heap.size w (wx.alloc (.cells #[.string a2, .int .u8 38] 79))) := fun wx h => h.alloc h.size _
      by_cases h : (38 : UInt8) = c
      · have t1 : ((38 : Int) == x) = true := HX2.out x HXE.out h
        have HV : Hid (entV c = .string a2) := by show entV c = _; rw [HA2.out]; exact HV0.out _ (hn.out.trans (if_pos h))
        clear h hn
        go_wp2_with fail
        go_ret
        exact ⟨by rw [HV.out]; rfl, HB2.out _ HBE.out⟩
      · have t1 : ((38 : Int) == x) = false := HY2.out x HXE.out h
        have HV : Hid (escN c = findC c (ents.drop 3)) := hn.out.trans (if_neg h)
        clear h hn
        go_wp2_with fail
        go_roundg (gk - 1)
        case measure => have := HKG.out; omega
        case rel => exact ⟨3, by have := HKG.out; omega, rfl, HB2.out _ HBE.out, HV⟩
    · clear ix0 ix1 ix2 ix4 c0 c1 c2 c3 c4 c5 c6 c7 c8 c9
      have HB2 : Hid (∀ wx, Below w.heap.size w wx → Below w.heap.size w (wx.alloc (.cells #[.string a3, .int .u8 34] 79))) := fun wx h => h.alloc h.size _
      by_cases h : (34 : UInt8) = c
      · have t1 : ((34 : Int) == x) = true := HX3.out x HXE.out h
        have HV : Hid (entV c = .string a3) := by show entV c = _; rw [HA3.out]; exact HV0.out _ (hn.out.trans (if_pos h))
        clear h hn
        go_wp2_with fail
        go_ret
        exact ⟨by rw [HV.out]; rfl, HB2.out _ HBE.out⟩
      · have t1 : ((34 : Int) == x) = false := HY3.out x HXE.out h
        have HV : Hid (escN c = findC c (ents.drop 4)) := hn.out.trans (if_neg h)
        clear h hn
        go_wp2_with fail
        go_roundg (gk - 1)
        case measure => have := HKG.out; omega
        case rel => exact ⟨4, by have := HKG.out; omega, rfl, HB2.out _ HBE.out, HV⟩
    · clear ix0 ix1 ix2 ix3 c0 c1 c2 c3 c4 c5 c6 c7 c8 c9
      have HB2 : Hid (∀ wx, Below w.heap.size w wx → Below w.heap.size w (wx.alloc (.cells #[.string a4, .int .u8 39] 79))) := fun wx h => h.alloc h.size _
      by_cases h : (39 : UInt8) = c
      · have t1 : ((39 : Int) == x) = true := HX4.out x HXE.out h
        have HV : Hid (entV c = .string a4) := by show entV c = _; rw [HA4.out]; exact HV0.out _ (hn.out.trans (if_pos h))
        clear h hn
        go_wp2_with fail
        go_ret
        exact ⟨by rw [HV.out]; rfl, HB2.out _ HBE.out⟩
      · have t1 : ((39 : Int) == x) = false := HY4.out x HXE.out h
        have HV : Hid (escN c = findC c (ents.drop 5)) := hn.out.trans (if_neg h)
        clear h hn
        go_wp2_with fail
        go_roundg (gk - 1)
        case measure => have := HKG.out; omega
        case rel => exact ⟨5, by have := HKG.out; omega, rfl, HB2.out _ HBE.out, HV⟩
    · clear ix0 ix1 ix2 ix3 ix4 c0 c1 c2 c3 c4 c5 c6 c7 c8 c9
      have HV : Hid (escN c = lowN c) := hn.out
      have HXX := HXE.out
      by_cases h : x < 32
      · have hc : c.toNat < 32 := by omega
        have C := Lib.hid (CI.out _ HBE.out hc)
        have HW : Hid (entV c = .string (⟨#[35]⟩ ++ mkS (Lib.decDigits c.toNat))) := by
          show entV c = _
          rw [HD.out hc, HV0.out _ (HV.out.trans (if_pos hc))]
          congr 1
        have hdz : (mkS (Lib.decDigits c.toNat)).size ≤ 2 := by rw [HD.out hc, mkS_size]; split <;> simp
        clear hn HV HXX HD HV0 HVN hc
        generalize mkS (Lib.decDigits c.toNat) = DD at *
        go_wp2_with fail
        refine C.out.mono ?_
        rintro e w2 ⟨rfl, hb⟩
        have HB3 := Lib.hid (HBE.out.trans (hb.mono HBE.out.size))
        clear hb C
        go_wp2_with fail
        go_ret
        exact ⟨by rw [HW.out]; rfl, HB3.out⟩
      · have HW : Hid (entV c = .string ⟨#[]⟩) := HVN.out (HV.out.trans (if_neg (by omega)))
        clear hn HV HXX HD HV0 HVN
        go_wp2_with fail
        go_ret
        exact ⟨by rw [HW.out]; rfl, HBE.out⟩
end Go.Proofs.YtoifibnmincodaaGreatDoor
