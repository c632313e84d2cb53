/- A character by its name; an entity. -/
import Derived.Test.YtoifibnmincodaaGreatDoorXq
namespace Go.Proofs.YtoifibnmincodaaGreatDoor
set_option linter.unusedSimpArgs false
set_option linter.unusedVariables false
open Go.RowKit

def findE (nm : Bs) : List (Bs × UInt8) → Option Nat
  | [] => charH nm
  | e :: r => if e.1 = nm then some e.2.toNat else findE nm r
theorem findE_eq (nm : Bs) : ∀ l : List (Bs × UInt8), (match l.find? (fun e => decide (e.1 = nm)) with
    | some e => some e.2.toNat
    | none => charH nm) = findE nm l
  | [] => rfl
  | e :: r => by
    rw [List.find?_cons, findE]
    by_cases h : e.1 = nm
    · rw [if_pos h, decide_eq_true h]
    · rw [if_neg h, decide_eq_false h]
      exact findE_eq nm r
theorem charR_find (nm : Bs) : charR nm = findE nm ents := by
  unfold charR
  exact findE_eq nm ents
theorem str_yes' {a b : ByteArray} (h : a = b) : (a.toList == b.toList) = true := by subst h; simp
theorem mkS_inj {a b : Bs} (h : mkS a = mkS b) : a = b := by
  have := congrArg (fun s : ByteArray => s.data.toList) h
  exact this
theorem trim_size (l p : Bs) : (Lib.trimPrefix l p).length ≤ l.length := trim_len l p
set_option maxHeartbeats 4000000 in
set_option maxRecDepth 100000 in
theorem character_any (nm : Bs) (hz : nm.length ≤ 40000) {B : Nat} {w : World} (hE : XEnv B w) :
    Calls Tryz.prog 97 #[.string (mkS nm)] w fun e w' => e = .returned (chV (charR nm)) ∧ Below w.heap.size w w' := by
  obtain ⟨t0, hB⟩ := hE.ents
  have c0 := hB.cell 0
  have c1 := hB.cell 1
  have c2 := hB.cell 2
  have c3 := hB.cell 3
  have c4 := hB.cell 4
  have c5 := hB.cell 5
  have c6 := hB.cell 6
  have c7 := hB.cell 7
  have c8 := hB.cell 8
  have c9 := hB.cell 9
  simp at c0 c1 c2 c3 c4 c5 c6 c7 c8 c9
  obtain ⟨a0, ha0⟩ : ∃ a, a = mkS [108, 116] := ⟨_, rfl⟩
  obtain ⟨a1, ha1⟩ : ∃ a, a = mkS [103, 116] := ⟨_, rfl⟩
  obtain ⟨a2, ha2⟩ : ∃ a, a = mkS [97, 109, 112] := ⟨_, rfl⟩
  obtain ⟨a3, ha3⟩ : ∃ a, a = mkS [113, 117, 111, 116] := ⟨_, rfl⟩
  obtain ⟨a4, ha4⟩ : ∃ a, a = mkS [97, 112, 111, 115] := ⟨_, rfl⟩
  rw [← ha0] at c0
  rw [← ha1] at c2
  rw [← ha2] at c4
  rw [← ha3] at c6
  rw [← ha4] at c8
  have ix0 : ∀ w, (Instr.index 80 (.agg #[.string a0, .int .u8 60, .string a1, .int .u8 62, .string a2, .int .u8 38, .string a3, .int .u8 34, .string a4, .int .u8 39]) (.int .i64 0)).run Tryz.prog w = .ok (.agg #[.string a0, .int .u8 60]) w := fun _ => by kernel_rfl
  have ix1 : ∀ w, (Instr.index 80 (.agg #[.string a0, .int .u8 60, .string a1, .int .u8 62, .string a2, .int .u8 38, .string a3, .int .u8 34, .string a4, .int .u8 39]) (.int .i64 1)).run Tryz.prog w = .ok (.agg #[.string a1, .int .u8 62]) w := fun _ => by kernel_rfl
  have ix2 : ∀ w, (Instr.index 80 (.agg #[.string a0, .int .u8 60, .string a1, .int .u8 62, .string a2, .int .u8 38, .string a3, .int .u8 34, .string a4, .int .u8 39]) (.int .i64 2)).run Tryz.prog w = .ok (.agg #[.string a2, .int .u8 38]) w := fun _ => by kernel_rfl
  have ix3 : ∀ w, (Instr.index 80 (.agg #[.string a0, .int .u8 60, .string a1, .int .u8 62, .string a2, .int .u8 38, .string a3, .int .u8 34, .string a4, .int .u8 39]) (.int .i64 3)).run Tryz.prog w = .ok (.agg #[.string a3, .int .u8 34]) w := fun _ => by kernel_rfl
  have ix4 : ∀ w, (Instr.index 80 (.agg #[.string a0, .int .u8 60, .string a1, .int .u8 62, .string a2, .int .u8 38, .string a3, .int .u8 34, .string a4, .int .u8 39]) (.int .i64 4)).run Tryz.prog w = .ok (.agg #[.string a4, .int .u8 39]) w := fun _ => by kernel_rfl
  have HF : Hid (charR nm = findE nm (ents.drop 0)) := charR_find nm
  have CN := Lib.hid (fun b m (t : ByteArray) h w' (hb : Below w.heap.size w w') ht => numbered_any b m t h (hE.below hb) ht)
  have CP := Lib.hid (fun p w => Tryz.strings_CutPrefix (mkS nm) (mkS p) w)
  obtain ⟨res, hres⟩ : ∃ res, res = charR nm := ⟨_, rfl⟩
  have HEQ : Hid (∀ e : Bs, e = nm → mkS e = mkS nm) := fun e h => by rw [h]
  have HNE : Hid (∀ e : Bs, ¬ e = nm → mkS e ≠ mkS nm) := fun e h h2 => h (mkS_inj h2)
  rw [← hres] at HF ⊢
  clear hres hE hB
  obtain ⟨S, hS⟩ : ∃ S, S = mkS nm := ⟨_, rfl⟩
  have HS := Lib.hid hS
  rw [← hS] at CP HEQ HNE ⊢
  clear hS
  have HA0 := Lib.hid ha0
  have HA1 := Lib.hid ha1
  have HA2 := Lib.hid ha2
  have HA3 := Lib.hid ha3
  have HA4 := Lib.hid ha4
  clear ha0 ha1 ha2 ha3 ha4
  go_enter Tryz.func97, Tryz.ntmps97
  go_wp2_with fail
  go_loopg [5, 11] 5 (fun g s5 s11 wx => ∃ k : Nat, k + g = 5 ∧ s11 = .int .i64 (k : Int) ∧ Below w.heap.size w wx ∧ Hid (res = findE nm (ents.drop k)))
  case atStart => exact ⟨0, by omega, rfl, Below.refl _ _, HF⟩
  case round =>
    obtain ⟨k, hkg, rfl, hbe, hn⟩ := hrel
    have HBE := Lib.hid hbe
    have hk' : k = 0 ∨ k = 1 ∨ k = 2 ∨ k = 3 ∨ k = 4 ∨ k = 5 := by omega
    have HKG := Lib.hid hkg
    clear hkg hbe HF
    rcases hk' with rfl | rfl | rfl | rfl | rfl | rfl
    · clear ix1 ix2 ix3 ix4 c0 c1 c2 c3 c4 c5 c6 c7 c8 c9
      have HB2 : Hid (∀ wx, Below w.heap.size w wx → Below w.heap.size w (wx.alloc (.cells #[.string a0, .int .u8 60] 79))) := fun wx h => h.alloc h.size _
      by_cases h : [108, 116] = nm
      · have t1 : (a0.toList == S.toList) = true := str_yes' (by rw [HA0.out]; exact HEQ.out _ h)
        have HV : Hid (res = some 60) := hn.out.trans (if_pos h)
        clear h hn
        go_wp2_with fail
        go_ret2
        exact ⟨by rw [HV.out]; rfl, HB2.out _ HBE.out⟩
      · have t1 : (a0.toList == S.toList) = false := str_ne (by rw [HA0.out]; exact HNE.out _ h)
        have HV : Hid (res = findE nm (ents.drop 1)) := hn.out.trans (if_neg h)
        clear h hn
        go_wp2_with fail
        go_roundg (gk - 1)
        case measure => have := HKG.out; omega
        case rel => exact ⟨1, by have := HKG.out; omega, rfl, HB2.out _ HBE.out, HV⟩
    · clear ix0 ix2 ix3 ix4 c0 c1 c2 c3 c4 c5 c6 c7 c8 c9
      have HB2 : Hid (∀ wx, Below w.heap.size w wx → Below w.heap.size w (wx.alloc (.cells #[.string a1, .int .u8 62] 79))) := fun wx h => h.alloc h.size _
      by_cases h : [103, 116] = nm
      · have t1 : (a1.toList == S.toList) = true := str_yes' (by rw [HA1.out]; exact HEQ.out _ h)
        have HV : Hid (res = some 62) := hn.out.trans (if_pos h)
        clear h hn
        go_wp2_with fail
        go_ret2
        exact ⟨by rw [HV.out]; rfl, HB2.out _ HBE.out⟩
      · have t1 : (a1.toList == S.toList) = false := str_ne (by rw [HA1.out]; exact HNE.out _ h)
        have HV : Hid (res = findE nm (ents.drop 2)) := hn.out.trans (if_neg h)
        clear h hn
        go_wp2_with fail
        go_roundg (gk - 1)
        case measure => have := HKG.out; omega
        case rel => exact ⟨2, by have := HKG.out; omega, rfl, HB2.out _ HBE.out, HV⟩
    · clear ix0 ix1 ix3 ix4 c0 c1 c2 c3 c4 c5 c6 c7 c8 c9
      have HB2 : Hid (∀ wx, Below w.heap.size w wx → Below w.heap.size w (wx.alloc (.cells #[.string a2, .int .u8 38] 79))) := fun wx h => h.alloc h.size _
      by_cases h : [97, 109, 112] = nm
      · have t1 : (a2.toList == S.toList) = true := str_yes' (by rw [HA2.out]; exact HEQ.out _ h)
        have HV : Hid (res = some 38) := hn.out.trans (if_pos h)
        clear h hn
        go_wp2_with fail
        go_ret2
        exact ⟨by rw [HV.out]; rfl, HB2.out _ HBE.out⟩
      · have t1 : (a2.toList == S.toList) = false := str_ne (by rw [HA2.out]; exact HNE.out _ h)
        have HV : Hid (res = findE nm (ents.drop 3)) := hn.out.trans (if_neg h)
        clear h hn
        go_wp2_with fail
        go_roundg (gk - 1)
        case measure => have := HKG.out; omega
        case rel => exact ⟨3, by have := HKG.out; omega, rfl, HB2.out _ HBE.out, HV⟩
    · clear ix0 ix1 ix2 ix4 c0 c1 c2 c3 c4 c5 c6 c7 c8 c9
      have HB2 : Hid (∀ wx, Below w.heap.size w wx → Below w.heap.size w (wx.alloc (.cells #[.string a3, .int .u8 34] 79))) := fun wx h => h.alloc h.size _
      by_cases h : [113, 117, 111, 116] = nm
      · have t1 : (a3.toList == S.toList) = true := str_yes' (by rw [HA3.out]; exact HEQ.out _ h)
        have HV : Hid (res = some 34) := hn.out.trans (if_pos h)
        clear h hn
        go_wp2_with fail
        go_ret2
        exact ⟨by rw [HV.out]; rfl, HB2.out _ HBE.out⟩
      · have t1 : (a3.toList == S.toList) = false := str_ne (by rw [HA3.out]; exact HNE.out _ h)
        have HV : Hid (res = findE nm (ents.drop 4)) := hn.out.trans (if_neg h)
        clear h hn
        go_wp2_with fail
        go_roundg (gk - 1)
        case measure => have := HKG.out; omega
        case rel => exact ⟨4, by have := HKG.out; omega, rfl, HB2.out _ HBE.out, HV⟩
    · clear ix0 ix1 ix2 ix3 c0 c1 c2 c3 c4 c5 c6 c7 c8 c9
      have HB2 : Hid (∀ wx, Below w.heap.size w wx → Below w.heap.size w (wx.alloc (.cells #[.string a4, .int .u8 39] 79))) := fun wx h => h.alloc h.size _
      by_cases h : [97, 112, 111, 115] = nm
      · have t1 : (a4.toList == S.toList) = true := str_yes' (by rw [HA4.out]; exact HEQ.out _ h)
        have HV : Hid (res = some 39) := hn.out.trans (if_pos h)
        clear h hn
        go_wp2_with fail
        go_ret2
        exact ⟨by rw [HV.out]; rfl, HB2.out _ HBE.out⟩
      · have t1 : (a4.toList == S.toList) = false := str_ne (by rw [HA4.out]; exact HNE.out _ h)
        have HV : Hid (res = findE nm (ents.drop 5)) := hn.out.trans (if_neg h)
        clear h hn
        go_wp2_with fail
        go_roundg (gk - 1)
        case measure => have := HKG.out; omega
        case rel => exact ⟨5, by have := HKG.out; omega, rfl, HB2.out _ HBE.out, HV⟩
    · have HV : Hid (res = charH nm) := hn.out
      clear hn ix0 ix1 ix2 ix3 ix4 c0 c1 c2 c3 c4 c5 c6 c7 c8 c9
      have HC : Hid (charH nm = if Lib.hasPrefix nm [35, 120] = true then numR 16 6 (Lib.trimPrefix nm [35, 120]) else if Lib.hasPrefix nm [35] = true then numR 10 7 (Lib.trimPrefix nm [35]) else none) := rfl
      have CP1 := Lib.hid (CP.out [35, 120])
      have CP2 := Lib.hid (CP.out [35])
      rw [HS.out, mkS_list, mkS_list, ← HS.out] at CP1 CP2
      have hz1 := trim_len nm [35, 120]
      have hz2 := trim_len nm [35]
      have CN1 := Lib.hid (fun w' hb => CN.out 16 6 (mkS (Lib.trimPrefix nm [35, 120])) (.inr ⟨rfl, rfl⟩) w' hb (by rw [mkS_size]; omega))
      have CN2 := Lib.hid (fun w' hb => CN.out 10 7 (mkS (Lib.trimPrefix nm [35])) (.inl ⟨rfl, rfl⟩) w' hb (by rw [mkS_size]; omega))
      rw [mkS_list] at CN1 CN2
      clear hz1 hz2 CN CP hz HEQ HNE
      generalize charH nm = ch at *
      generalize numR 16 6 _ = r1 at *
      generalize numR 10 7 _ = r2 at *
      generalize Lib.trimPrefix nm [35, 120] = d1 at *
      generalize Lib.trimPrefix nm [35] = d2 at *
      generalize Lib.hasPrefix nm [35, 120] = b1 at *
      generalize Lib.hasPrefix nm [35] = b2 at *
      cases b1 with
      | true =>
        have HV2 : Hid (res = r1) := HV.out.trans HC.out
        clear HV HC CN2 CP2
        go_wp2_with fail
        refine (CP1.out _).mono ?_
        rintro e w1 ⟨rfl, rfl⟩
        have CN3 := Lib.hid (CN1.out _ HBE.out)
        go_wp2_with fail
        refine CN3.out.mono ?_
        rintro e w2 ⟨rfl, hb⟩
        have HB3 := Lib.hid (HBE.out.trans (hb.mono HBE.out.size))
        clear hb CN3 CN1
        cases r1 with
        | none =>
          unfold chV
          go_wp2_with fail
          go_ret2
          exact ⟨by rw [HV2.out]; rfl, HB3.out⟩
        | some n =>
          unfold chV
          go_wp2_with fail
          go_ret2
          exact ⟨by rw [HV2.out]; rfl, HB3.out⟩
      | false =>
        cases b2 with
        | true =>
          have HV2 : Hid (res = r2) := HV.out.trans HC.out
          clear HV HC CN1
          go_wp2_with fail
          refine (CP1.out _).mono ?_
          rintro e w1 ⟨rfl, rfl⟩
          go_wp2_with fail
          refine (CP2.out _).mono ?_
          rintro e w1 ⟨rfl, rfl⟩
          have CN3 := Lib.hid (CN2.out _ HBE.out)
          go_wp2_with fail
          refine CN3.out.mono ?_
          rintro e w2 ⟨rfl, hb⟩
          have HB3 := Lib.hid (HBE.out.trans (hb.mono HBE.out.size))
          clear hb CN3 CN2
          cases r2 with
          | none =>
            unfold chV
            go_wp2_with fail
            go_ret2
            exact ⟨by rw [HV2.out]; rfl, HB3.out⟩
          | some n =>
            unfold chV
            go_wp2_with fail
            go_ret2
            exact ⟨by rw [HV2.out]; rfl, HB3.out⟩
        | false =>
          have HV2 : Hid (res = none) := HV.out.trans HC.out
          clear HV HC CN1 CN2
          go_wp2_with fail
          refine (CP1.out _).mono ?_
          rintro e w1 ⟨rfl, rfl⟩
          go_wp2_with fail
          refine (CP2.out _).mono ?_
          rintro e w1 ⟨rfl, rfl⟩
          go_wp2_with fail
          go_ret2
          exact ⟨by rw [HV2.out]; rfl, HBE.out⟩
end Go.Proofs.YtoifibnmincodaaGreatDoor
