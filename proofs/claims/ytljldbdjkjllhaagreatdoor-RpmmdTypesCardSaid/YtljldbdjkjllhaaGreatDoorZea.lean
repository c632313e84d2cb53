/- What an escaped byte is written as, and a text: the package's own. A byte that is written to a builder. A text that is escaped: the package's own. RpmmdApart: the documents and the law's walk. RpmmdApart: the law at what came in. -/
import Derived.Test.YtljldbdjkjllhaaGreatDoorZde
import Derived.Test.YtljldbdjkjllhaaGreatDoorZac
import Derived.Test.YtljldbdjkjllhaaGreatDoorZcb
import Derived.Lib.AppendIntMem
import Derived.Deep.LoopGhost
import Derived.Test.YtljldbdjkjllhaaGreatDoorZdf
/- What an escaped byte is written as, and a text: the package's own. -/
namespace Go.Proofs.YtljldbdjkjllhaaGreatDoor
set_option linter.unusedSimpArgs false
set_option linter.unusedVariables false
open Go.RowKit

def lowN (c : UInt8) : Option Bs := if c.toNat < 32 then some (35 :: (if c.toNat < 10 then [48 + c] else [48 + c / 10, 48 + c % 10])) else none
def findC (c : UInt8) : List (Bs × UInt8) → Option Bs
  | [] => lowN c
  | e :: r => if e.2 = c then some e.1 else findC c r
theorem findC_eq (c : UInt8) : ∀ l : List (Bs × UInt8), (match l.find? (fun e => decide (e.2 = c)) with
    | some e => some e.1
    | none => lowN c) = findC c l
  | [] => rfl
  | e :: r => by
    rw [List.find?_cons, findC]
    by_cases h : e.2 = c
    · rw [if_pos h, decide_eq_true h]
    · rw [if_neg h, decide_eq_false h]
      exact findC_eq c r
theorem escN_find (c : UInt8) : escN c = findC c ents := findC_eq c ents
theorem low_dec (c : UInt8) : c.toNat < 32 → Lib.decDigits c.toNat = (if c.toNat < 10 then [48 + c] else [48 + c / 10, 48 + c % 10]) := by
  revert c
  refine all_u8 ?_
  decide +kernel
def PowA (w : World) : Prop := Lib.TabIs Tryz.prog w "internal/strconv.uint64pow10" .u64 Lib.pow10Tab
def entB_ (c : UInt8) : Value := .string (mkS ((escN c).getD []))
set_option maxHeartbeats 4000000 in
set_option maxRecDepth 100000 in
theorem entityOf_any (c : UInt8) {B : Nat} {w : World} (hE : XEnv B w) (hP : ∀ w', Below w.heap.size w w' → PowA w') :
    Calls Tryz.prog 21 #[.int .u8 (c.toNat : Int)] w fun e w' => e = .returned (entB_ c) ∧ Below w.heap.size w w' := by
  obtain ⟨t0, hB⟩ := hE.ents
  have c0 := hB.cell 0
  have c1 := hB.cell 1
  have c2 := hB.cell 2
  have c3 := hB.cell 3
  have c4 := hB.cell 4
  have c5 := hB.cell 5
  have c6 := hB.cell 6
  have c7 := hB.cell 7
  have c8 := hB.cell 8
  have c9 := hB.cell 9
  simp at c0 c1 c2 c3 c4 c5 c6 c7 c8 c9
  obtain ⟨a0, ha0⟩ : ∃ a, a = mkS [108, 116] := ⟨_, rfl⟩
  obtain ⟨a1, ha1⟩ : ∃ a, a = mkS [103, 116] := ⟨_, rfl⟩
  obtain ⟨a2, ha2⟩ : ∃ a, a = mkS [97, 109, 112] := ⟨_, rfl⟩
  obtain ⟨a3, ha3⟩ : ∃ a, a = mkS [113, 117, 111, 116] := ⟨_, rfl⟩
  obtain ⟨a4, ha4⟩ : ∃ a, a = mkS [97, 112, 111, 115] := ⟨_, rfl⟩
  rw [← ha0] at c0
  rw [← ha1] at c2
  rw [← ha2] at c4
  rw [← ha3] at c6
  rw [← ha4] at c8
  have ix0 : ∀ w, (Instr.index 92 (.agg #[.string a0, .int .u8 60, .string a1, .int .u8 62, .string a2, .int .u8 38, .string a3, .int .u8 34, .string a4, .int .u8 39]) (.int .i64 0)).run Tryz.prog w = .ok (.agg #[.string a0, .int .u8 60]) w := fun _ => by kernel_rfl
  have ix1 : ∀ w, (Instr.index 92 (.agg #[.string a0, .int .u8 60, .string a1, .int .u8 62, .string a2, .int .u8 38, .string a3, .int .u8 34, .string a4, .int .u8 39]) (.int .i64 1)).run Tryz.prog w = .ok (.agg #[.string a1, .int .u8 62]) w := fun _ => by kernel_rfl
  have ix2 : ∀ w, (Instr.index 92 (.agg #[.string a0, .int .u8 60, .string a1, .int .u8 62, .string a2, .int .u8 38, .string a3, .int .u8 34, .string a4, .int .u8 39]) (.int .i64 2)).run Tryz.prog w = .ok (.agg #[.string a2, .int .u8 38]) w := fun _ => by kernel_rfl
  have ix3 : ∀ w, (Instr.index 92 (.agg #[.string a0, .int .u8 60, .string a1, .int .u8 62, .string a2, .int .u8 38, .string a3, .int .u8 34, .string a4, .int .u8 39]) (.int .i64 3)).run Tryz.prog w = .ok (.agg #[.string a3, .int .u8 34]) w := fun _ => by kernel_rfl
  have ix4 : ∀ w, (Instr.index 92 (.agg #[.string a0, .int .u8 60, .string a1, .int .u8 62, .string a2, .int .u8 38, .string a3, .int .u8 34, .string a4, .int .u8 39]) (.int .i64 4)).run Tryz.prog w = .ok (.agg #[.string a4, .int .u8 39]) w := fun _ => by kernel_rfl
  have HF : Hid (escN c = findC c (ents.drop 0)) := escN_find c
  have HV0 : Hid (∀ n, escN c = some n → entB_ c = .string (mkS n)) := fun n h => by unfold entB_; rw [h]; rfl
  have HVN : Hid (escN c = none → entB_ c = .string ⟨#[]⟩) := fun h => by unfold entB_; rw [h]; rfl
  have CI : Hid (∀ w', Below w.heap.size w w' → c.toNat < 32 → Calls Tryz.prog 41 #[.int .i64 (c.toNat : Int)] w' fun e w'' => e = .returned (.string (mkS (Lib.decDigits c.toNat))) ∧ Below w'.heap.size w' w'') := fun w' hb hc =>
    (Tryz.strconv_Itoa c.toNat (by omega) (by omega) w' (hP w' hb)).mono fun e w'' ⟨he, k, os, hw⟩ => by
      subst hw
      rw [Lib.itoa_nonneg] at he
      exact ⟨he, Lib.below_grow _ w' (Nat.le_refl _) k os⟩
  have HD := Lib.hid (low_dec c)
  have HX0 : Hid (∀ x : Int, x = (c.toNat : Int) → (60 : UInt8) = c → ((60 : Int) == x) = true) := fun x hx h => by subst h; subst hx; decide
  have HX1 : Hid (∀ x : Int, x = (c.toNat : Int) → (62 : UInt8) = c → ((62 : Int) == x) = true) := fun x hx h => by subst h; subst hx; decide
  have HX2 : Hid (∀ x : Int, x = (c.toNat : Int) → (38 : UInt8) = c → ((38 : Int) == x) = true) := fun x hx h => by subst h; subst hx; decide
  have HX3 : Hid (∀ x : Int, x = (c.toNat : Int) → (34 : UInt8) = c → ((34 : Int) == x) = true) := fun x hx h => by subst h; subst hx; decide
  have HX4 : Hid (∀ x : Int, x = (c.toNat : Int) → (39 : UInt8) = c → ((39 : Int) == x) = true) := fun x hx h => by subst h; subst hx; decide
  have HY0 : Hid (∀ x : Int, x = (c.toNat : Int) → ¬ (60 : UInt8) = c → ((60 : Int) == x) = false) := fun x hx h => by subst hx; exact beq_eq_false_iff_ne.2 (fun e => h (UInt8.toNat_inj.1 (by have : ((60 : UInt8).toNat) = 60 := rfl; omega)))
  have HY1 : Hid (∀ x : Int, x = (c.toNat : Int) → ¬ (62 : UInt8) = c → ((62 : Int) == x) = false) := fun x hx h => by subst hx; exact beq_eq_false_iff_ne.2 (fun e => h (UInt8.toNat_inj.1 (by have : ((62 : UInt8).toNat) = 62 := rfl; omega)))
  have HY2 : Hid (∀ x : Int, x = (c.toNat : Int) → ¬ (38 : UInt8) = c → ((38 : Int) == x) = false) := fun x hx h => by subst hx; exact beq_eq_false_iff_ne.2 (fun e => h (UInt8.toNat_inj.1 (by have : ((38 : UInt8).toNat) = 38 := rfl; omega)))
  have HY3 : Hid (∀ x : Int, x = (c.toNat : Int) → ¬ (34 : UInt8) = c → ((34 : Int) == x) = false) := fun x hx h => by subst hx; exact beq_eq_false_iff_ne.2 (fun e => h (UInt8.toNat_inj.1 (by have : ((34 : UInt8).toNat) = 34 := rfl; omega)))
  have HY4 : Hid (∀ x : Int, x = (c.toNat : Int) → ¬ (39 : UInt8) = c → ((39 : Int) == x) = false) := fun x hx h => by subst hx; exact beq_eq_false_iff_ne.2 (fun e => h (UInt8.toNat_inj.1 (by have : ((39 : UInt8).toNat) = 39 := rfl; omega)))
  obtain ⟨x, hx⟩ : ∃ x : Int, x = (c.toNat : Int) := ⟨_, rfl⟩
  have hx0 : 0 ≤ x := by omega
  have hx1 : x ≤ 255 := by have := c.toNat_lt; omega
  have HXE := Lib.hid hx
  rw [← hx] at CI ⊢
  clear hx hE hB hP
  have HA0 := Lib.hid ha0
  have HA1 := Lib.hid ha1
  have HA2 := Lib.hid ha2
  have HA3 := Lib.hid ha3
  have HA4 := Lib.hid ha4
  clear ha0 ha1 ha2 ha3 ha4
  go_enter Tryz.func21, Tryz.ntmps21
  go_wp2_with fail
  go_loopg [4, 6] 5 (fun g s4 s6 wx => ∃ k : Nat, k + g = 5 ∧ s6 = .int .i64 (k : Int) ∧ Below w.heap.size w wx ∧ Hid (escN c = findC c (ents.drop k)))
  case atStart => exact ⟨0, by omega, rfl, Below.refl _ _, HF⟩
  case round =>
    obtain ⟨k, hkg, rfl, hbe, hn⟩ := hrel
    have HBE := Lib.hid hbe
    have hk' : k = 0 ∨ k = 1 ∨ k = 2 ∨ k = 3 ∨ k = 4 ∨ k = 5 := by omega
    have HKG := Lib.hid hkg
    clear hkg hbe HF
    rcases hk' with rfl | rfl | rfl | rfl | rfl | rfl
    · clear ix1 ix2 ix3 ix4 c0 c1 c2 c3 c4 c5 c6 c7 c8 c9
      have HB2 : Hid (∀ wx, Below w.heap.size w wx → Below w.heap.size w (wx.alloc (.cells #[.string a0, .int .u8 60] 91))) := fun wx h => h.alloc h.size _
      by_cases h : (60 : UInt8) = c
      · have t1 : ((60 : Int) == x) = true := HX0.out x HXE.out h
        have HV : Hid (entB_ c = .string a0) := by show entB_ c = _; rw [HA0.out]; exact HV0.out _ (hn.out.trans (if_pos h))
        clear h hn
        go_wp2_with fail
        go_ret
        exact ⟨by rw [HV.out]; rfl, HB2.out _ HBE.out⟩
      · have t1 : ((60 : Int) == x) = false := HY0.out x HXE.out h
        have HV : Hid (escN c = findC c (ents.drop 1)) := hn.out.trans (if_neg h)
        clear h hn
        go_wp2_with fail
        go_roundg (gk - 1)
        case measure => have := HKG.out; omega
        case rel => exact ⟨1, by have := HKG.out; omega, rfl, HB2.out _ HBE.out, HV⟩
    · clear ix0 ix2 ix3 ix4 c0 c1 c2 c3 c4 c5 c6 c7 c8 c9
      have HB2 : Hid (∀ wx, Below w.heap.size w wx → Below w.heap.size w (wx.alloc (.cells #[.string a1, .int .u8 62] 91))) := fun wx h => h.alloc h.size _
      by_cases h : (62 : UInt8) = c
      · have t1 : ((62 : Int) == x) = true := HX1.out x HXE.out h
        have HV : Hid (entB_ c = .string a1) := by show entB_ c = _; rw [HA1.out]; exact HV0.out _ (hn.out.trans (if_pos h))
        clear h hn
        go_wp2_with fail
        go_ret
        exact ⟨by rw [HV.out]; rfl, HB2.out _ HBE.out⟩
      · have t1 : ((62 : Int) == x) = false := HY1.out x HXE.out h
        have HV : Hid (escN c = findC c (ents.drop 2)) := hn.out.trans (if_neg h)
        clear h hn
        go_wp2_with fail
        go_roundg (gk - 1)
        case measure => have := HKG.out; omega
        case rel => exact ⟨2, by have := HKG.out; omega, rfl, HB2.out _ HBE.out, HV⟩
    · clear ix0 ix1 ix3 ix4 c0 c1 c2 c3 c4 c5 c6 c7 c8 c9
      have HB2 : Hid (∀ wx, Below w.heap.size w wx → Below w.heap.size w (wx.alloc (.cells #[.string a2, .int .u8 38] 91))) := fun wx h => h.alloc h.size _
      by_cases h : (38 : UInt8) = c
      · have t1 : ((38 : Int) == x) = true := HX2.out x HXE.out h
        have HV : Hid (entB_ c = .string a2) := by show entB_ c = _; rw [HA2.out]; exact HV0.out _ (hn.out.trans (if_pos h))
        clear h hn
        go_wp2_with fail
        go_ret
        exact ⟨by rw [HV.out]; rfl, HB2.out _ HBE.out⟩
      · have t1 : ((38 : Int) == x) = false := HY2.out x HXE.out h
        have HV : Hid (escN c = findC c (ents.drop 3)) := hn.out.trans (if_neg h)
        clear h hn
        go_wp2_with fail
        go_roundg (gk - 1)
        case measure => have := HKG.out; omega
        case rel => exact ⟨3, by have := HKG.out; omega, rfl, HB2.out _ HBE.out, HV⟩
    · clear ix0 ix1 ix2 ix4 c0 c1 c2 c3 c4 c5 c6 c7 c8 c9
      have HB2 : Hid (∀ wx, Below w.heap.size w wx → Below w.heap.size w (wx.alloc (.cells #[.string a3, .int .u8 34] 91))) := fun wx h => h.alloc h.size _
      by_cases h : (34 : UInt8) = c
      · have t1 : ((34 : Int) == x) = true := HX3.out x HXE.out h
        have HV : Hid (entB_ c = .string a3) := by show entB_ c = _; rw [HA3.out]; exact HV0.out _ (hn.out.trans (if_pos h))
        clear h hn
        go_wp2_with fail
        go_ret
        exact ⟨by rw [HV.out]; rfl, HB2.out _ HBE.out⟩
      · have t1 : ((34 : Int) == x) = false := HY3.out x HXE.out h
        have HV : Hid (escN c = findC c (ents.drop 4)) := hn.out.trans (if_neg h)
        clear h hn
        go_wp2_with fail
        go_roundg (gk - 1)
        case measure => have := HKG.out; omega
        case rel => exact ⟨4, by have := HKG.out; omega, rfl, HB2.out _ HBE.out, HV⟩
    · clear ix0 ix1 ix2 ix3 c0 c1 c2 c3 c4 c5 c6 c7 c8 c9
      have HB2 : Hid (∀ wx, Below w.heap.size w wx → Below w.heap.size w (wx.alloc (.cells #[.string a4, .int .u8 39] 91))) := fun wx h => h.alloc h.size _
      by_cases h : (39 : UInt8) = c
      · have t1 : ((39 : Int) == x) = true := HX4.out x HXE.out h
        have HV : Hid (entB_ c = .string a4) := by show entB_ c = _; rw [HA4.out]; exact HV0.out _ (hn.out.trans (if_pos h))
        clear h hn
        go_wp2_with fail
        go_ret
        exact ⟨by rw [HV.out]; rfl, HB2.out _ HBE.out⟩
      · have t1 : ((39 : Int) == x) = false := HY4.out x HXE.out h
        have HV : Hid (escN c = findC c (ents.drop 5)) := hn.out.trans (if_neg h)
        clear h hn
        go_wp2_with fail
        go_roundg (gk - 1)
        case measure => have := HKG.out; omega
        case rel => exact ⟨5, by have := HKG.out; omega, rfl, HB2.out _ HBE.out, HV⟩
    · clear ix0 ix1 ix2 ix3 ix4 c0 c1 c2 c3 c4 c5 c6 c7 c8 c9
      have HV : Hid (escN c = lowN c) := hn.out
      have HXX := HXE.out
      by_cases h : x < 32
      · have hc : c.toNat < 32 := by omega
        have C := Lib.hid (CI.out _ HBE.out hc)
        have HW : Hid (entB_ c = .string (⟨#[35]⟩ ++ mkS (Lib.decDigits c.toNat))) := by
          show entB_ c = _
          rw [HD.out hc, HV0.out _ (HV.out.trans (if_pos hc))]
          congr 1
        have hdz : (mkS (Lib.decDigits c.toNat)).size ≤ 2 := by rw [HD.out hc, mkS_size]; split <;> simp
        clear hn HV HXX HD HV0 HVN hc
        generalize mkS (Lib.decDigits c.toNat) = DD at *
        go_wp2_with fail
        refine C.out.mono ?_
        rintro e w2 ⟨rfl, hb⟩
        have HB3 := Lib.hid (HBE.out.trans (hb.mono HBE.out.size))
        clear hb C
        go_wp2_with fail
        go_ret
        exact ⟨by rw [HW.out]; rfl, HB3.out⟩
      · have HW : Hid (entB_ c = .string ⟨#[]⟩) := HVN.out (HV.out.trans (if_neg (by omega)))
        clear hn HV HXX HD HV0 HVN
        go_wp2_with fail
        go_ret
        exact ⟨by rw [HW.out]; rfl, HBE.out⟩
end Go.Proofs.YtljldbdjkjllhaaGreatDoor

/- A byte that is written to a builder. -/
namespace Go.Proofs.YtljldbdjkjllhaaGreatDoor
set_option linter.unusedSimpArgs false
set_option linter.unusedVariables false
open Go.RowKit

set_option maxHeartbeats 2000000 in
set_option maxRecDepth 100000 in
theorem writeByte_any (B b : Nat) (l : List UInt8) (F : List Nat) (c : UInt8) (w : World) (h : Bld w B b l F) (hlen : l.length + 1 ≤ 1099511627776) :
    Calls Tryz.prog 23 #[.pointer (some ⟨b, 0, none⟩), .int .u8 (c.toNat : Int)] w fun e w' => e = .returned .nilIface ∧ ∃ F', Bld w' B b (l ++ [c]) F' ∧ Turned F w w' ∧ Fresh w F F' := by
  have hBb : B ≤ b := by obtain ⟨_, _, _, _, _, hB, _⟩ := h; exact hB
  have C := Lib.hid (copyCheck_any B b l F w h)
  obtain ⟨i0, hi, hz0, hz1, hz2⟩ := info_parts Tryz.Builder_Extra_169.infoByte
  have hi' : Tryz.prog.info? 5 = some i0 := hi
  clear hi h
  obtain ⟨x, hx⟩ : ∃ x : Int, x = (c.toNat : Int) := ⟨_, rfl⟩
  have HX := Lib.hid hx
  rw [← hx]
  clear hx
  go_enter Tryz.func23, Tryz.ntmps23
  go_wp2_with fail
  refine C.out.mono ?_
  rintro e w1 ⟨rfl, ht1, v, hb, hown, hF⟩
  have hne : v.ownBlock ≠ some b := own_kind hown hb (by decide)
  have c1 := hb.cell 1
  simp at c1
  have HF := Lib.hid hF
  have HT := Lib.hid ht1
  have HB := Lib.hid hb
  clear hF ht1 C
  have hlt := hb.lt
  clear hb
  have hownA := hown.alloc (.cells #[.int .u8 x] 5)
  have HO := Lib.hid hownA
  have HCN := Lib.hid (cell_one_new w1 (.int .u8 x) 5)
  have hlen' : (l.length : Int) + 1 ≤ 1099511627776 := by omega
  clear hownA
  go_wp2_with (at_builtin; refine wpList_append_own_at _ rfl (.tmp 11) (.tmp 13) 46 rfl B 5 i0 (.int .u8 0) 1 1 Tryz.underlying46 hi' hz0 hz1 hz2 rfl (by decide) v l.length (Lib.byteCells l) rfl HO.out ⟨w1.heap.size, 0, none⟩ 1 1 [.int .u8 x] rfl rfl HCN.out (by intro u hu; simp at hu; subst hu; rfl) (by unfold maxLen; omega) (by omega) (by simp; omega) ?_)
  intro v' w2 hown' hgrow hnil hown2
  have hb1 : Blk (w1.alloc (.cells #[.int .u8 x] 5)) b 48 #[.pointer (some ⟨b, 0, none⟩), v] := HB.out.alloc _
  have hb2 : Blk w2 b 48 #[.pointer (some ⟨b, 0, none⟩), v] := hb1.grown hgrow (Ne.symm hne)
  have d0 := hb2.cell 0
  have d1 := hb2.cell 1
  have f1 := hb2.free 1
  simp at d0 d1
  obtain ⟨ao, n', cap, rfl⟩ : ∃ ao n' cap, v' = .slice ao n' cap := by
    rcases hown'.2 with ⟨hv, _⟩ | ⟨g, cap, cur, hv, _⟩
    · exact ⟨_, _, _, hv⟩
    · exact ⟨_, _, _, hv⟩
  have HP : Hid (∃ F', Bld (w2.setCell ⟨b, 1, none⟩ (.slice ao n' cap)) B b (l ++ [c]) F' ∧ Turned F w (w2.setCell ⟨b, 1, none⟩ (.slice ao n' cap)) ∧ Fresh w F F') := by
    have hn2 : (Value.slice ao n' cap).ownBlock ≠ some b := own_kind hown' hb2 (by decide)
    have ho2 : w2.ownsRow B 5 1 (.slice ao n' cap) (l ++ [c]).length (Lib.byteCells (l ++ [c])) := by
      rw [byteCells_append, List.length_append, show Lib.byteCells [c] = [.int .u8 (c.toNat : Int)] from rfl, ← HX.out]
      exact hown'
    have ht1 : Turned F w (w1.alloc (.cells #[.int .u8 x] 5)) := HT.out.alloc _
    refine ⟨b :: (Value.slice ao n' cap).ownBlock.toList, ⟨_, _, .inr rfl, hb2.set_ 1 _, own_setCell ho2 hn2 _, hBb, rfl⟩, ?_, ?_⟩
    · rw [HF.out] at ht1 ⊢
      have ht2 : Turned (b :: v.ownBlock.toList) w w2 := ht1.grown hgrow (fun k hk => .inl (by simp [hk]))
      exact ht2.setCell (.inl (by simp)) _
    · rw [HF.out]
      intro k hk
      rcases List.mem_cons.1 hk with rfl | hk
      · exact .inl (by simp)
      · have hk' : (Value.slice ao n' cap).ownBlock = some k := by simpa using hk
        rcases hown2 with h | h
        · rw [h] at hk'; exact .inl (by simp [hk'])
        · rw [h] at hk'
          injection hk' with hk'
          subst hk'
          exact .inr (by have := ht1.size; simpa using this)
  clear hown' hgrow hown2 hb2 hb1 HB HF HT hown HO
  go_wp2_with fail
  go_ret
  exact ⟨rfl, HP.out⟩
end Go.Proofs.YtljldbdjkjllhaaGreatDoor

/- A text that is escaped: the package's own. -/
namespace Go.Proofs.YtljldbdjkjllhaaGreatDoor
set_option linter.unusedSimpArgs false
set_option linter.unusedVariables false
open Go.RowKit

/-- A text that is escaped, up to a place. -/
theorem esc_take {l : Bs} {k : Nat} {c : UInt8} (h : l[k]? = some c) : escX (l.take (k + 1)) = escX (l.take k) ++ escB c := by
  rw [List.take_add_one, h, escX_app]
  show _ ++ (escB c ++ []) = _
  rw [List.append_nil]
theorem str_none {l : Bs} (h : l ≠ []) : ((mkS l).toList == ([] : List UInt8)) = false := by
  have h1 := str_ne (a := mkS l) (b := mkS []) (fun e => h (mkS_inj e))
  have h2 : (mkS []).toList = [] := by first | rfl | kernel_rfl | decide +kernel
  rw [h2] at h1
  exact h1
theorem esc_not (c : UInt8) : escN c ≠ some [] := by
  have h : ∀ c : UInt8, (escN c != some []) = true := all_u8 (p := fun c => (escN c != some []) = true) (by decide +kernel)
  have := h c
  simpa using this
theorem esc_ne {c : UInt8} {n : Bs} (h : escN c = some n) : n ≠ [] := fun e => esc_not c (by rw [h, e])
set_option maxHeartbeats 4000000 in
set_option maxRecDepth 100000 in
theorem escape_any (l : Bs) (hl : l.length ≤ 137438953472) {B : Nat} {w : World} (hE : XEnv B w) (hP : ∀ w', Below w.heap.size w w' → PowA w') :
    Calls Tryz.prog 12 #[.string (mkS l)] w fun e w' => e = .returned (.string (mkS (escX l))) ∧ Below w.heap.size w w' := by
  have CE := Lib.hid (fun c w' (hb : Below w.heap.size w w') => entityOf_any c (hE.below hb) (fun w'' hb' => hP w'' (hb.trans (hb'.mono hb.size))))
  have HB0 : Hid (Bld (w.alloc (.cells #[.pointer none, .slice none 0 0] 48)) w.heap.size w.heap.size [] [w.heap.size]) := Bld.new w
  have HBE0 : Hid (Below w.heap.size w (w.alloc (.cells #[.pointer none, .slice none 0 0] 48))) := (Below.refl _ _).alloc (Nat.le_refl _) _
  have HLN : Hid (∀ k : Nat, ∀ h : k < (mkS l).size, l[k]? = some (mkS l)[k]) := fun k h => byte_at (s := mkS l) h
  have HSZ : Hid (l.length = (mkS l).size) := rfl
  have HES := Lib.hid (fun k => (escX_len (l.take k)).2)
  have hz : (mkS l).size ≤ 137438953472 := by rw [mkS_size]; exact hl
  have HWHOLE : Hid (l.take (mkS l).size = l) := by show l.take _ = l; rw [mkS_size, List.take_length]
  clear hE hP hl
  generalize mkS l = S at *
  go_enter Tryz.func12, Tryz.ntmps12
  go_wp2_with fail
  go_loopg [4, 5, 6, 9] S.size (fun gk v4 v5 v6 v9 wx => ∃ (k : Nat) (F : List Nat), k + gk = S.size ∧ v9 = .int .i64 (k : Int) ∧ Hid (Bld wx w.heap.size w.heap.size (escX (l.take k)) F) ∧ Hid (Below w.heap.size w wx))
  case atStart => exact ⟨0, _, by omega, rfl, HB0, HBE0⟩
  case round =>
    obtain ⟨k, F, hkg, rfl, HB, HBE⟩ := hrel
    clear HB0 HBE0
    by_cases hlt : k < S.size
    · have hbyte := HLN.out k hlt
      have hstep := esc_take hbyte
      have C := Lib.hid (CE.out S[k] _ HBE.out)
      have hsz : (escX (l.take k)).length ≤ 6 * 137438953472 := by
        have h1 := HES.out k
        have h2 : (l.take k).length ≤ k := by simp; omega
        omega
      cases hn : escN S[k] with
      | none =>
        have hV : entB_ S[k] = .string ⟨#[]⟩ := by unfold entB_; rw [hn]; rfl
        rw [escB_none hn] at hstep
        rw [hV] at C
        have HST := Lib.hid hstep
        have CW := Lib.hid (fun wy (hb : Below _ _ wy) => writeByte_any w.heap.size w.heap.size (escX (l.take k)) F S[k] wy (HB.out.below hb) (by omega))
        have HLT : Hid (∀ i ∈ F, w.heap.size ≤ i) := fun i hi => (HB.out.lt i hi).1
        clear hV hn hstep hbyte hsz
        go_wp2_with fail
        refine C.out.mono ?_
        rintro e w2 ⟨rfl, hb⟩
        have C2 := Lib.hid (CW.out w2 hb)
        have HBE2 := Lib.hid (HBE.out.trans (hb.mono HBE.out.size))
        clear hb C CW HBE
        go_wp2_with fail
        refine C2.out.mono ?_
        rintro e w3 ⟨rfl, F', hB', ht, -⟩
        have HB3 : Hid (Bld w3 w.heap.size w.heap.size (escX (l.take (k + 1))) F') := by show Bld _ _ _ _ _; rw [HST.out]; exact hB'
        have HBE3 := Lib.hid (HBE2.out.trans (ht.below HLT.out HBE2.out.size))
        clear hB' ht C2 HBE2 HB
        go_wp2_with fail
        go_roundg (gk - 1)
        case measure => omega
        case rel => exact ⟨k + 1, F', by omega, rfl, HB3, HBE3⟩
      | some n =>
        have hV : entB_ S[k] = .string (mkS n) := by unfold entB_; rw [hn]; rfl
        have tn := str_none (esc_ne hn)
        have hn4 := (escN_some hn).len
        have hn4' := hn4
        rw [escB_some hn] at hstep
        rw [hV] at C
        have hcat : (⟨#[38]⟩ ++ mkS n ++ ⟨#[59]⟩ : ByteArray).data.toList = 38 :: (n ++ [59]) := by simp only [bl_app, mkS_list]; simp
        have HST := Lib.hid hstep
        have CW := Lib.hid (fun wy (hb : Below _ _ wy) => writeString_any w.heap.size w.heap.size (escX (l.take k)) F (⟨#[38]⟩ ++ mkS n ++ ⟨#[59]⟩) wy (HB.out.below hb) (by rw [← size_len, hcat]; simp; omega))
        unfold WrotePost at CW
        rw [hcat] at CW
        have HLT : Hid (∀ i ∈ F, w.heap.size ≤ i) := fun i hi => (HB.out.lt i hi).1
        clear hV hn hstep hbyte hsz hcat hn4
        have hez : (mkS n).size ≤ 4 := by rw [mkS_size]; exact hn4'
        clear hn4'
        generalize mkS n = E at *
        go_wp2_with fail
        refine C.out.mono ?_
        rintro e w2 ⟨rfl, hb⟩
        have C2 := Lib.hid (CW.out w2 hb)
        have HBE2 := Lib.hid (HBE.out.trans (hb.mono HBE.out.size))
        clear hb C CW HBE
        go_wp2_with fail
        refine C2.out.mono ?_
        rintro e w3 ⟨rfl, F', hB', ht, -⟩
        have HB3 : Hid (Bld w3 w.heap.size w.heap.size (escX (l.take (k + 1))) F') := by show Bld _ _ _ _ _; rw [HST.out]; exact hB'
        have HBE3 := Lib.hid (HBE2.out.trans (ht.below HLT.out HBE2.out.size))
        clear hB' ht C2 HBE2 HB
        go_wp2_with fail
        go_roundg (gk - 1)
        case measure => omega
        case rel => exact ⟨k + 1, F', by omega, rfl, HB3, HBE3⟩
    · have C := Lib.hid (string_any w.heap.size w.heap.size (escX (l.take k)) F _ HB.out HBE.out.size)
      have hk : k = S.size := by omega
      rw [hk, HWHOLE.out] at C
      have HBX := HBE
      clear CE HB HLN hk
      go_wp2_with fail
      refine C.out.mono ?_
      rintro e w2 ⟨rfl, hb⟩
      have HB3 := Lib.hid (HBX.out.trans hb)
      go_wp2_with fail
      go_ret
      exact ⟨rfl, HB3.out⟩
end Go.Proofs.YtljldbdjkjllhaaGreatDoor

/- RpmmdApart: the documents and the law's walk. -/
namespace Go.Proofs.YtljldbdjkjllhaaGreatDoor
set_option linter.unusedSimpArgs false
set_option linter.unusedVariables false
open Go.RowKit

theorem esc_rpm : escX [114, 112, 109] = [114, 112, 109] := by kernel_rfl
/-- What All tells of a text in an element. -/
theorem docT_all {t : Bs} (hl : t.length ≤ 3000) : (allX (60 :: ([97] ++ 62 :: (escX t ++ 60 :: 47 :: ([97] ++ 62 :: []))))).2 = if t.all xMay = true then 0 else 103 := by
  have hz : (60 :: ([97] ++ 62 :: (escX t ++ 60 :: 47 :: ([97] ++ 62 :: []))) : Bs).length ≤ 40000 := by
    have := (escX_len t).2
    simp
    omega
  have hn : NmOk ([97] : Bs) = true := by decide
  by_cases h : t.all xMay = true
  · rw [if_pos h, whole_ hz ((open_ (o := []) hn (by simp) (.inr rfl)).trans (text_close (o := []) hn h))]
  · rw [if_neg h, part_ hz (open_ (o := []) hn (by simp) (.inr rfl)) (text_bad (o := [] ++ [[97]]) (by simpa using h))]
def gX (a b c : Bs) : Sg := seg2 (segT nameN_ a) (seg2 (segT archN_ b) (segA versN_ verN c))
def gY (a b c : Bs) : Sg := seg2 (segA versN_ verN c) (seg2 (segT nameN_ a) (segT archN_ b))
def gZ (a b c d : Bs) : Sg := seg2 (segA versN_ verN c) (seg2 (segIn otherN (segT nameN_ d)) (seg2 (segT archN_ b) (segT nameN_ a)))
def cX (a b c : Bs) : Px := ⟨trimX a, verX [(verN, c)], trimX b, none⟩
theorem runX_ (a b c : Bs) : SgRun (gX a b c) (fun p => setV c (setA b (setN a p))) := run_2 (f := setN a) (g := fun p => setV c (setA b p)) (run_T1 a) (run_2 (f := setA b) (g := setV c) (run_T2 b) (run_V c))
theorem runY_ (a b c : Bs) : SgRun (gY a b c) (fun p => setA b (setN a (setV c p))) := run_2 (f := setV c) (g := fun p => setA b (setN a p)) (run_V c) (run_2 (f := setN a) (g := setA b) (run_T1 a) (run_T2 b))
theorem runZ_ (a b c d : Bs) : SgRun (gZ a b c d) (fun p => setN a (setA b (id (setV c p)))) := run_2 (f := setV c) (g := fun p => setN a (setA b (id p))) (run_V c) (run_2 (f := id) (g := fun p => setN a (setA b p)) (run_O d) (run_2 (f := setA b) (g := setN a) (run_T2 b) (run_T1 a)))
section
variable {a b c d : Bs}
theorem okX : SgOk [metaN] (pkX (gX a b c)) := segAt_ok (by decide) (by decide) (by simp) (by simp) (seg2_ok (segT_ok (by decide) (by simp) (by simp)) (seg2_ok (segT_ok (by decide) (by simp) (by simp)) (segA_ok (by decide) (by decide) (by simp) (by simp))))
theorem okY : SgOk [metaN] (pkX (gY a b c)) := segAt_ok (by decide) (by decide) (by simp) (by simp) (seg2_ok (segA_ok (by decide) (by decide) (by simp) (by simp)) (seg2_ok (segT_ok (by decide) (by simp) (by simp)) (segT_ok (by decide) (by simp) (by simp))))
theorem okZ : SgOk [metaN] (pkX (gZ a b c d)) := segAt_ok (by decide) (by decide) (by simp) (by simp) (seg2_ok (segA_ok (by decide) (by decide) (by simp) (by simp)) (seg2_ok (segIn_ok (by decide) (by simp) (by simp) (segT_ok (by decide) (by simp) (by simp))) (seg2_ok (segT_ok (by decide) (by simp) (by simp)) (segT_ok (by decide) (by simp) (by simp)))))
variable (ha : a.length ≤ 1000) (hb : b.length ≤ 1000) (hc : c.length ≤ 1000) (hd : d.length ≤ 1000)
include ha hb hc
theorem smX : SmallG (pkX (gX a b c)) := smallAt _ _ _ (by simp [rpmN]) (small2 (smallT _ _ (by omega)) (small2 (smallT _ _ (by omega)) (smallA _ _ _ (by omega))))
theorem smY : SmallG (pkX (gY a b c)) := smallAt _ _ _ (by simp [rpmN]) (small2 (smallA _ _ _ (by omega)) (small2 (smallT _ _ (by omega)) (smallT _ _ (by omega))))
theorem lenX : (docN metaN (pkX (gX a b c))).length ≤ 40000 := by
  have h1 := (escX_len a).2
  have h2 := (escX_len b).2
  have h3 := (escX_len c).2
  simp [docN, pkX, gX, segAt, seg2, segT, segA, esc_rpm, metaN, packN, typeN, rpmN, nameN_, archN_, versN_, verN]
  omega
theorem lenY : (docN metaN (pkX (gY a b c))).length ≤ 40000 := by
  have h1 := (escX_len a).2
  have h2 := (escX_len b).2
  have h3 := (escX_len c).2
  simp [docN, pkX, gY, segAt, seg2, segT, segA, esc_rpm, metaN, packN, typeN, rpmN, nameN_, archN_, versN_, verN]
  omega
include hd
theorem smZ : SmallG (pkX (gZ a b c d)) := smallAt _ _ _ (by simp [rpmN]) (small2 (smallA _ _ _ (by omega)) (small2 (smallIn _ (smallT _ _ (by omega))) (small2 (smallT _ _ (by omega)) (smallT _ _ (by omega)))))
theorem lenZ : (docN metaN (pkX (gZ a b c d))).length ≤ 40000 := by
  have h1 := (escX_len a).2
  have h2 := (escX_len b).2
  have h3 := (escX_len c).2
  have h4 := (escX_len d).2
  simp [docN, pkX, gZ, segAt, seg2, segT, segA, segIn, esc_rpm, metaN, packN, typeN, rpmN, nameN_, archN_, versN_, verN, otherN]
  omega
end
def bH : ByteArray := ⟨#[60, 109, 101, 116, 97, 100, 97, 116, 97, 62, 60, 112, 97, 99, 107, 97, 103, 101, 32, 116, 121, 112, 101, 61, 34, 114, 112, 109, 34, 62]⟩
def bE : ByteArray := ⟨#[60, 47, 112, 97, 99, 107, 97, 103, 101, 62, 60, 47, 109, 101, 116, 97, 100, 97, 116, 97, 62]⟩
def bN (a : Bs) : ByteArray := ⟨#[60, 110, 97, 109, 101, 62]⟩ ++ mkS (escX a) ++ ⟨#[60, 47, 110, 97, 109, 101, 62]⟩
def bA (a : Bs) : ByteArray := ⟨#[60, 97, 114, 99, 104, 62]⟩ ++ mkS (escX a) ++ ⟨#[60, 47, 97, 114, 99, 104, 62]⟩
def bVv (a : Bs) : ByteArray := ⟨#[60, 118, 101, 114, 115, 105, 111, 110, 32, 118, 101, 114, 61, 34]⟩ ++ mkS (escX a) ++ ⟨#[34, 47, 62]⟩
def bO (a : Bs) : ByteArray := ⟨#[60, 111, 116, 104, 101, 114, 62, 60, 110, 97, 109, 101, 62]⟩ ++ mkS (escX a) ++ ⟨#[60, 47, 110, 97, 109, 101, 62, 60, 47, 111, 116, 104, 101, 114, 62]⟩
theorem catX (a b c : Bs) : bH ++ bN a ++ bA b ++ bVv c ++ bE = mkS (docN metaN (pkX (gX a b c))) := s_ext (by
  simp only [bH, bE, bN, bA, bVv, bl_app, mkS_list]
  simp [docN, pkX, gX, segAt, seg2, segT, segA, esc_rpm, metaN, packN, typeN, rpmN, nameN_, archN_, versN_, verN])
theorem catY (a b c : Bs) : bH ++ bVv c ++ bN a ++ bA b ++ bE = mkS (docN metaN (pkX (gY a b c))) := s_ext (by
  simp only [bH, bE, bN, bA, bVv, bl_app, mkS_list]
  simp [docN, pkX, gY, segAt, seg2, segT, segA, esc_rpm, metaN, packN, typeN, rpmN, nameN_, archN_, versN_, verN])
theorem catZ (a b c d : Bs) : bH ++ bVv c ++ bO d ++ bA b ++ bN a ++ bE = mkS (docN metaN (pkX (gZ a b c d))) := s_ext (by
  simp only [bH, bE, bN, bA, bVv, bO, bl_app, mkS_list]
  simp [docN, pkX, gZ, segAt, seg2, segT, segA, segIn, esc_rpm, metaN, packN, typeN, rpmN, nameN_, archN_, versN_, verN, otherN])
theorem catT (d : Bs) : (⟨#[60, 97, 62]⟩ ++ mkS (escX d) ++ ⟨#[60, 47, 97, 62]⟩ : ByteArray) = mkS (60 :: ([97] ++ 62 :: (escX d ++ 60 :: 47 :: ([97] ++ 62 :: [])))) := s_ext (by
  simp only [bl_app, mkS_list]
  simp)
def ErrPost (W : World) (n : Int) (e : Ending) (w' : World) : Prop := ∃ A m c, e = .returned (.tuple #[.slice A m c, .int .i64 n]) ∧ Below W.heap.size W w'
theorem all_err (l : Bs) (n : Int) (h : (allX l).2 = n) {w : World} {B : Nat} (hE : XEnv B w) : Calls Tryz.prog 14 #[.string (mkS l)] w (ErrPost w n) := by
  refine (all_q l hE).mono ?_
  rintro e w' ⟨A, c, rfl, _, _, _, hb⟩
  exact ⟨A, _, c, by rw [h], hb⟩
theorem gd3 (x y z : Bool) : (z && (x && y)) = (x && (y && z)) := by cases x <;> cases y <;> cases z <;> rfl
theorem gd4 (x y z : Bool) : (z && (true && (y && x))) = (x && (y && z)) := by cases x <;> cases y <;> cases z <;> rfl
set_option maxHeartbeats 16000000 in
set_option maxRecDepth 1000000 in
theorem apart_longa (a b c d : Bs) (la : a.length ≤ 1048576) (lb : b.length ≤ 1048576) (lc : c.length ≤ 1048576) (ld : d.length ≤ 1048576) (h0 : 1000 < a.length) (W : World) {B : Nat} (hE : MdEnv B W) (hP : ∀ w', Below W.heap.size W w' → PowA w') :
    Calls Tryz.prog 4 #[.string (mkS a), .string (mkS b), .string (mkS c), .string (mkS d)] W fun e w' => e = .returned (.bool true) ∧ Below W.heap.size W w' := by
  have CA := Lib.hid (mdAwake_any W hE)
  have CEa := Lib.hid (fun w' (hb : Below W.heap.size W w') => escape_any a (by omega) (hE.below hb).xml (fun w'' hb' => hP w'' (hb.trans (hb'.mono hb.size))))
  have hEa : (mkS (escX a)).size ≤ 6291456 := by rw [mkS_size]; have := (escX_len a).2; omega
  have CEb := Lib.hid (fun w' (hb : Below W.heap.size W w') => escape_any b (by omega) (hE.below hb).xml (fun w'' hb' => hP w'' (hb.trans (hb'.mono hb.size))))
  have hEb : (mkS (escX b)).size ≤ 6291456 := by rw [mkS_size]; have := (escX_len b).2; omega
  have CEc := Lib.hid (fun w' (hb : Below W.heap.size W w') => escape_any c (by omega) (hE.below hb).xml (fun w'' hb' => hP w'' (hb.trans (hb'.mono hb.size))))
  have hEc : (mkS (escX c)).size ≤ 6291456 := by rw [mkS_size]; have := (escX_len c).2; omega
  have CEd := Lib.hid (fun w' (hb : Below W.heap.size W w') => escape_any d (by omega) (hE.below hb).xml (fun w'' hb' => hP w'' (hb.trans (hb'.mono hb.size))))
  have hEd : (mkS (escX d)).size ≤ 6291456 := by rw [mkS_size]; have := (escX_len d).2; omega
  have z0 : (1000 : Int) < ((mkS a).size : Int) := by rw [mkS_size]; omega
  clear hE hP la lb lc ld h0
  generalize mkS (escX a) = Ea at *
  generalize mkS (escX b) = Eb at *
  generalize mkS (escX c) = Ec at *
  generalize mkS (escX d) = Ed at *
  generalize mkS a = Sa at *
  generalize mkS b = Sb at *
  generalize mkS c = Sc at *
  generalize mkS d = Sd at *
  go_enter Tryz.func4, Tryz.ntmps4
  go_wp2_with fail
  refine CA.out.mono ?_
  rintro e w1 ⟨rfl, hb1⟩
  have HB1 := Lib.hid hb1
  clear hb1 CA
  go_wp2_with fail
  refine (CEa.out _ HB1.out).mono ?_
  rintro e w2 ⟨rfl, hb⟩
  have HB2 := Lib.hid (HB1.out.trans (hb.mono HB1.out.size))
  clear hb
  go_wp2_with fail
  refine (CEb.out _ HB2.out).mono ?_
  rintro e w3 ⟨rfl, hb⟩
  have HB3 := Lib.hid (HB2.out.trans (hb.mono HB2.out.size))
  clear hb
  go_wp2_with fail
  refine (CEc.out _ HB3.out).mono ?_
  rintro e w4 ⟨rfl, hb⟩
  have HB4 := Lib.hid (HB3.out.trans (hb.mono HB3.out.size))
  clear hb
  go_wp2_with fail
  refine (CEd.out _ HB4.out).mono ?_
  rintro e w5 ⟨rfl, hb⟩
  have HB5 := Lib.hid (HB4.out.trans (hb.mono HB4.out.size))
  clear hb
  go_wp2_with fail
  go_ret
  exact ⟨rfl, HB5.out⟩
set_option maxHeartbeats 16000000 in
set_option maxRecDepth 1000000 in
theorem apart_longb (a b c d : Bs) (la : a.length ≤ 1048576) (lb : b.length ≤ 1048576) (lc : c.length ≤ 1048576) (ld : d.length ≤ 1048576) (h0 : ¬ 1000 < a.length) (h1 : 1000 < b.length) (W : World) {B : Nat} (hE : MdEnv B W) (hP : ∀ w', Below W.heap.size W w' → PowA w') :
    Calls Tryz.prog 4 #[.string (mkS a), .string (mkS b), .string (mkS c), .string (mkS d)] W fun e w' => e = .returned (.bool true) ∧ Below W.heap.size W w' := by
  have CA := Lib.hid (mdAwake_any W hE)
  have CEa := Lib.hid (fun w' (hb : Below W.heap.size W w') => escape_any a (by omega) (hE.below hb).xml (fun w'' hb' => hP w'' (hb.trans (hb'.mono hb.size))))
  have hEa : (mkS (escX a)).size ≤ 6291456 := by rw [mkS_size]; have := (escX_len a).2; omega
  have CEb := Lib.hid (fun w' (hb : Below W.heap.size W w') => escape_any b (by omega) (hE.below hb).xml (fun w'' hb' => hP w'' (hb.trans (hb'.mono hb.size))))
  have hEb : (mkS (escX b)).size ≤ 6291456 := by rw [mkS_size]; have := (escX_len b).2; omega
  have CEc := Lib.hid (fun w' (hb : Below W.heap.size W w') => escape_any c (by omega) (hE.below hb).xml (fun w'' hb' => hP w'' (hb.trans (hb'.mono hb.size))))
  have hEc : (mkS (escX c)).size ≤ 6291456 := by rw [mkS_size]; have := (escX_len c).2; omega
  have CEd := Lib.hid (fun w' (hb : Below W.heap.size W w') => escape_any d (by omega) (hE.below hb).xml (fun w'' hb' => hP w'' (hb.trans (hb'.mono hb.size))))
  have hEd : (mkS (escX d)).size ≤ 6291456 := by rw [mkS_size]; have := (escX_len d).2; omega
  have z0 : ¬ (1000 : Int) < ((mkS a).size : Int) := by rw [mkS_size]; omega
  have z1 : (1000 : Int) < ((mkS b).size : Int) := by rw [mkS_size]; omega
  clear hE hP la lb lc ld h0 h1
  generalize mkS (escX a) = Ea at *
  generalize mkS (escX b) = Eb at *
  generalize mkS (escX c) = Ec at *
  generalize mkS (escX d) = Ed at *
  generalize mkS a = Sa at *
  generalize mkS b = Sb at *
  generalize mkS c = Sc at *
  generalize mkS d = Sd at *
  go_enter Tryz.func4, Tryz.ntmps4
  go_wp2_with fail
  refine CA.out.mono ?_
  rintro e w1 ⟨rfl, hb1⟩
  have HB1 := Lib.hid hb1
  clear hb1 CA
  go_wp2_with fail
  refine (CEa.out _ HB1.out).mono ?_
  rintro e w2 ⟨rfl, hb⟩
  have HB2 := Lib.hid (HB1.out.trans (hb.mono HB1.out.size))
  clear hb
  go_wp2_with fail
  refine (CEb.out _ HB2.out).mono ?_
  rintro e w3 ⟨rfl, hb⟩
  have HB3 := Lib.hid (HB2.out.trans (hb.mono HB2.out.size))
  clear hb
  go_wp2_with fail
  refine (CEc.out _ HB3.out).mono ?_
  rintro e w4 ⟨rfl, hb⟩
  have HB4 := Lib.hid (HB3.out.trans (hb.mono HB3.out.size))
  clear hb
  go_wp2_with fail
  refine (CEd.out _ HB4.out).mono ?_
  rintro e w5 ⟨rfl, hb⟩
  have HB5 := Lib.hid (HB4.out.trans (hb.mono HB4.out.size))
  clear hb
  go_wp2_with fail
  go_ret
  exact ⟨rfl, HB5.out⟩
set_option maxHeartbeats 16000000 in
set_option maxRecDepth 1000000 in
theorem apart_longc (a b c d : Bs) (la : a.length ≤ 1048576) (lb : b.length ≤ 1048576) (lc : c.length ≤ 1048576) (ld : d.length ≤ 1048576) (h0 : ¬ 1000 < a.length) (h1 : ¬ 1000 < b.length) (h2 : 1000 < c.length) (W : World) {B : Nat} (hE : MdEnv B W) (hP : ∀ w', Below W.heap.size W w' → PowA w') :
    Calls Tryz.prog 4 #[.string (mkS a), .string (mkS b), .string (mkS c), .string (mkS d)] W fun e w' => e = .returned (.bool true) ∧ Below W.heap.size W w' := by
  have CA := Lib.hid (mdAwake_any W hE)
  have CEa := Lib.hid (fun w' (hb : Below W.heap.size W w') => escape_any a (by omega) (hE.below hb).xml (fun w'' hb' => hP w'' (hb.trans (hb'.mono hb.size))))
  have hEa : (mkS (escX a)).size ≤ 6291456 := by rw [mkS_size]; have := (escX_len a).2; omega
  have CEb := Lib.hid (fun w' (hb : Below W.heap.size W w') => escape_any b (by omega) (hE.below hb).xml (fun w'' hb' => hP w'' (hb.trans (hb'.mono hb.size))))
  have hEb : (mkS (escX b)).size ≤ 6291456 := by rw [mkS_size]; have := (escX_len b).2; omega
  have CEc := Lib.hid (fun w' (hb : Below W.heap.size W w') => escape_any c (by omega) (hE.below hb).xml (fun w'' hb' => hP w'' (hb.trans (hb'.mono hb.size))))
  have hEc : (mkS (escX c)).size ≤ 6291456 := by rw [mkS_size]; have := (escX_len c).2; omega
  have CEd := Lib.hid (fun w' (hb : Below W.heap.size W w') => escape_any d (by omega) (hE.below hb).xml (fun w'' hb' => hP w'' (hb.trans (hb'.mono hb.size))))
  have hEd : (mkS (escX d)).size ≤ 6291456 := by rw [mkS_size]; have := (escX_len d).2; omega
  have z0 : ¬ (1000 : Int) < ((mkS a).size : Int) := by rw [mkS_size]; omega
  have z1 : ¬ (1000 : Int) < ((mkS b).size : Int) := by rw [mkS_size]; omega
  have z2 : (1000 : Int) < ((mkS c).size : Int) := by rw [mkS_size]; omega
  clear hE hP la lb lc ld h0 h1 h2
  generalize mkS (escX a) = Ea at *
  generalize mkS (escX b) = Eb at *
  generalize mkS (escX c) = Ec at *
  generalize mkS (escX d) = Ed at *
  generalize mkS a = Sa at *
  generalize mkS b = Sb at *
  generalize mkS c = Sc at *
  generalize mkS d = Sd at *
  go_enter Tryz.func4, Tryz.ntmps4
  go_wp2_with fail
  refine CA.out.mono ?_
  rintro e w1 ⟨rfl, hb1⟩
  have HB1 := Lib.hid hb1
  clear hb1 CA
  go_wp2_with fail
  refine (CEa.out _ HB1.out).mono ?_
  rintro e w2 ⟨rfl, hb⟩
  have HB2 := Lib.hid (HB1.out.trans (hb.mono HB1.out.size))
  clear hb
  go_wp2_with fail
  refine (CEb.out _ HB2.out).mono ?_
  rintro e w3 ⟨rfl, hb⟩
  have HB3 := Lib.hid (HB2.out.trans (hb.mono HB2.out.size))
  clear hb
  go_wp2_with fail
  refine (CEc.out _ HB3.out).mono ?_
  rintro e w4 ⟨rfl, hb⟩
  have HB4 := Lib.hid (HB3.out.trans (hb.mono HB3.out.size))
  clear hb
  go_wp2_with fail
  refine (CEd.out _ HB4.out).mono ?_
  rintro e w5 ⟨rfl, hb⟩
  have HB5 := Lib.hid (HB4.out.trans (hb.mono HB4.out.size))
  clear hb
  go_wp2_with fail
  go_ret
  exact ⟨rfl, HB5.out⟩
set_option maxHeartbeats 16000000 in
set_option maxRecDepth 1000000 in
theorem apart_longd (a b c d : Bs) (la : a.length ≤ 1048576) (lb : b.length ≤ 1048576) (lc : c.length ≤ 1048576) (ld : d.length ≤ 1048576) (h0 : ¬ 1000 < a.length) (h1 : ¬ 1000 < b.length) (h2 : ¬ 1000 < c.length) (h3 : 1000 < d.length) (W : World) {B : Nat} (hE : MdEnv B W) (hP : ∀ w', Below W.heap.size W w' → PowA w') :
    Calls Tryz.prog 4 #[.string (mkS a), .string (mkS b), .string (mkS c), .string (mkS d)] W fun e w' => e = .returned (.bool true) ∧ Below W.heap.size W w' := by
  have CA := Lib.hid (mdAwake_any W hE)
  have CEa := Lib.hid (fun w' (hb : Below W.heap.size W w') => escape_any a (by omega) (hE.below hb).xml (fun w'' hb' => hP w'' (hb.trans (hb'.mono hb.size))))
  have hEa : (mkS (escX a)).size ≤ 6291456 := by rw [mkS_size]; have := (escX_len a).2; omega
  have CEb := Lib.hid (fun w' (hb : Below W.heap.size W w') => escape_any b (by omega) (hE.below hb).xml (fun w'' hb' => hP w'' (hb.trans (hb'.mono hb.size))))
  have hEb : (mkS (escX b)).size ≤ 6291456 := by rw [mkS_size]; have := (escX_len b).2; omega
  have CEc := Lib.hid (fun w' (hb : Below W.heap.size W w') => escape_any c (by omega) (hE.below hb).xml (fun w'' hb' => hP w'' (hb.trans (hb'.mono hb.size))))
  have hEc : (mkS (escX c)).size ≤ 6291456 := by rw [mkS_size]; have := (escX_len c).2; omega
  have CEd := Lib.hid (fun w' (hb : Below W.heap.size W w') => escape_any d (by omega) (hE.below hb).xml (fun w'' hb' => hP w'' (hb.trans (hb'.mono hb.size))))
  have hEd : (mkS (escX d)).size ≤ 6291456 := by rw [mkS_size]; have := (escX_len d).2; omega
  have z0 : ¬ (1000 : Int) < ((mkS a).size : Int) := by rw [mkS_size]; omega
  have z1 : ¬ (1000 : Int) < ((mkS b).size : Int) := by rw [mkS_size]; omega
  have z2 : ¬ (1000 : Int) < ((mkS c).size : Int) := by rw [mkS_size]; omega
  have z3 : (1000 : Int) < ((mkS d).size : Int) := by rw [mkS_size]; omega
  clear hE hP la lb lc ld h0 h1 h2 h3
  generalize mkS (escX a) = Ea at *
  generalize mkS (escX b) = Eb at *
  generalize mkS (escX c) = Ec at *
  generalize mkS (escX d) = Ed at *
  generalize mkS a = Sa at *
  generalize mkS b = Sb at *
  generalize mkS c = Sc at *
  generalize mkS d = Sd at *
  go_enter Tryz.func4, Tryz.ntmps4
  go_wp2_with fail
  refine CA.out.mono ?_
  rintro e w1 ⟨rfl, hb1⟩
  have HB1 := Lib.hid hb1
  clear hb1 CA
  go_wp2_with fail
  refine (CEa.out _ HB1.out).mono ?_
  rintro e w2 ⟨rfl, hb⟩
  have HB2 := Lib.hid (HB1.out.trans (hb.mono HB1.out.size))
  clear hb
  go_wp2_with fail
  refine (CEb.out _ HB2.out).mono ?_
  rintro e w3 ⟨rfl, hb⟩
  have HB3 := Lib.hid (HB2.out.trans (hb.mono HB2.out.size))
  clear hb
  go_wp2_with fail
  refine (CEc.out _ HB3.out).mono ?_
  rintro e w4 ⟨rfl, hb⟩
  have HB4 := Lib.hid (HB3.out.trans (hb.mono HB3.out.size))
  clear hb
  go_wp2_with fail
  refine (CEd.out _ HB4.out).mono ?_
  rintro e w5 ⟨rfl, hb⟩
  have HB5 := Lib.hid (HB4.out.trans (hb.mono HB4.out.size))
  clear hb
  go_wp2_with fail
  go_ret
  exact ⟨rfl, HB5.out⟩
set_option maxHeartbeats 16000000 in
set_option maxRecDepth 1000000 in
theorem apart_main (a b c d : Bs) (la : a.length ≤ 1048576) (lb : b.length ≤ 1048576) (lc : c.length ≤ 1048576) (ld : d.length ≤ 1048576) (ha : a.length ≤ 1000) (hb : b.length ≤ 1000) (hc : c.length ≤ 1000) (hd : d.length ≤ 1000) (W : World) {B : Nat} (hE : MdEnv B W) (hP : ∀ w', Below W.heap.size W w' → PowA w') :
    Calls Tryz.prog 4 #[.string (mkS a), .string (mkS b), .string (mkS c), .string (mkS d)] W fun e w' => e = .returned (.bool true) ∧ Below W.heap.size W w' := by
  have CA := Lib.hid (mdAwake_any W hE)
  have CEa := Lib.hid (fun w' (hb : Below W.heap.size W w') => escape_any a (by omega) (hE.below hb).xml (fun w'' hb' => hP w'' (hb.trans (hb'.mono hb.size))))
  have hEa : (mkS (escX a)).size ≤ 6291456 := by rw [mkS_size]; have := (escX_len a).2; omega
  have CEb := Lib.hid (fun w' (hb : Below W.heap.size W w') => escape_any b (by omega) (hE.below hb).xml (fun w'' hb' => hP w'' (hb.trans (hb'.mono hb.size))))
  have hEb : (mkS (escX b)).size ≤ 6291456 := by rw [mkS_size]; have := (escX_len b).2; omega
  have CEc := Lib.hid (fun w' (hb : Below W.heap.size W w') => escape_any c (by omega) (hE.below hb).xml (fun w'' hb' => hP w'' (hb.trans (hb'.mono hb.size))))
  have hEc : (mkS (escX c)).size ≤ 6291456 := by rw [mkS_size]; have := (escX_len c).2; omega
  have CEd := Lib.hid (fun w' (hb : Below W.heap.size W w') => escape_any d (by omega) (hE.below hb).xml (fun w'' hb' => hP w'' (hb.trans (hb'.mono hb.size))))
  have hEd : (mkS (escX d)).size ≤ 6291456 := by rw [mkS_size]; have := (escX_len d).2; omega
  have z0 : ¬ (1000 : Int) < ((mkS a).size : Int) := by rw [mkS_size]; omega
  have z1 : ¬ (1000 : Int) < ((mkS b).size : Int) := by rw [mkS_size]; omega
  have z2 : ¬ (1000 : Int) < ((mkS c).size : Int) := by rw [mkS_size]; omega
  have z3 : ¬ (1000 : Int) < ((mkS d).size : Int) := by rw [mkS_size]; omega
  have CX := Lib.hid (fun (s : ByteArray) (h : s = mkS (docN metaN (pkX (gX a b c)))) w' (hbw : Below W.heap.size W w') => h.symm ▸ one_any (runX_ a b c) rfl okX (smX ha hb hc) (lenX ha hb hc) (hE.below hbw).xml (hE.below hbw).tabs (hE.below hbw).flags)
  have CY := Lib.hid (fun (s : ByteArray) (h : s = mkS (docN metaN (pkX (gY a b c)))) w' (hbw : Below W.heap.size W w') => h.symm ▸ one_any (runY_ a b c) rfl okY (smY ha hb hc) (lenY ha hb hc) (hE.below hbw).xml (hE.below hbw).tabs (hE.below hbw).flags)
  have CZ := Lib.hid (fun (s : ByteArray) (h : s = mkS (docN metaN (pkX (gZ a b c d)))) w' (hbw : Below W.heap.size W w') => h.symm ▸ one_any (runZ_ a b c d) rfl okZ (smZ ha hb hc hd) (lenZ ha hb hc hd) (hE.below hbw).xml (hE.below hbw).tabs (hE.below hbw).flags)
  have CT := Lib.hid (fun (s : ByteArray) (h : s = mkS (60 :: ([97] ++ 62 :: (escX d ++ 60 :: 47 :: ([97] ++ 62 :: []))))) w' (hbw : Below W.heap.size W w') => h.symm ▸ all_err _ _ (docT_all (t := d) (by omega)) (hE.below hbw).xml)
  have hgx : (gX a b c).good = (a.all xMay && (b.all xMay && c.all xMay)) := rfl
  have hgy : (gY a b c).good = (c.all xMay && (a.all xMay && b.all xMay)) := rfl
  have hgz : (gZ a b c d).good = (c.all xMay && (d.all xMay && (b.all xMay && a.all xMay))) := rfl
  have CB := Lib.hid (fun (s : ByteArray) (h : s = mkS (docN metaN (pkX (gX a b c)))) w' (hbw : Below W.heap.size W w') => h.symm ▸ all_err (docN metaN (pkX (gX a b c))) (if (a.all xMay && (b.all xMay && c.all xMay)) = true then 0 else 103) (by
    by_cases hg : (gX a b c).good = true
    · rw [doc_good (by decide) (lenX ha hb hc) okX (by show (rpmN.all xMay && (gX a b c).good) = true; rw [hg]; decide), ← hgx, if_pos hg]
    · have hg' : (gX a b c).good = false := by simpa using hg
      rw [doc_bad (by decide) (lenX ha hb hc) okX (by show (rpmN.all xMay && (gX a b c).good) = false; rw [hg']; decide), ← hgx, if_neg hg]) (hE.below hbw).xml)
  have hcx : setV c (setA b (setN a px0)) = cX a b c := rfl
  have hcy : setA b (setN a (setV c px0)) = cX a b c := rfl
  have hcz : setN a (setA b (id (setV c px0))) = cX a b c := rfl
  simp only [hgx, hcx] at CX
  simp only [hgy, hcy, gd3] at CY
  simp only [hgz, hcz] at CZ
  have HX := Lib.hid (catX a b c)
  have HY := Lib.hid (catY a b c)
  have HZ := Lib.hid (catZ a b c d)
  have HT := Lib.hid (catT d)
  clear hgx hgy hgz hcx hcy hcz hE hP la lb lc ld ha hb hc hd
  unfold bH bE bN bA bVv at HX HY
  unfold bH bE bN bA bVv bO at HZ
  generalize mkS (docN metaN (pkX (gX a b c))) = DX at *
  generalize mkS (docN metaN (pkX (gY a b c))) = DY at *
  generalize mkS (docN metaN (pkX (gZ a b c d))) = DZ at *
  generalize mkS (60 :: ([97] ++ 62 :: (escX d ++ 60 :: 47 :: ([97] ++ 62 :: [])))) = DT at *
  generalize hgA : a.all xMay = ga at *
  generalize hgB : b.all xMay = gb at *
  generalize hgC : c.all xMay = gc at *
  generalize hgD : d.all xMay = gd at *
  clear hgA hgB hgC hgD
  generalize cX a b c = PX at *
  generalize mkS (escX a) = Ea at *
  generalize mkS (escX b) = Eb at *
  generalize mkS (escX c) = Ec at *
  generalize mkS (escX d) = Ed at *
  generalize mkS a = Sa at *
  generalize mkS b = Sb at *
  generalize mkS c = Sc at *
  generalize mkS d = Sd at *
  cases gd with
  | false =>
    have hz0 : ∀ g : Bool, (gc && (false && g)) = false := fun g => by cases gc <;> rfl
    have hN3 : outN (gc && (false && (gb && ga))) PX = 103 := by rw [hz0]; rfl
    have hL3 : outL (gc && (false && (gb && ga))) PX = [] := by rw [hz0]; rfl
    unfold OnePost at CX CY CZ
    unfold ErrPost at CT CB
    rw [hN3, hL3] at CZ
    rw [if_neg (by decide)] at CT
    clear hz0 hN3 hL3 CB
    generalize outL (ga && (gb && gc)) PX = L1 at *
    generalize outN (ga && (gb && gc)) PX = N1 at *
    go_enter Tryz.func4, Tryz.ntmps4
    go_wp2_with fail
    refine CA.out.mono ?_
    rintro e w1 ⟨rfl, hb1⟩
    have HB1 := Lib.hid hb1
    clear hb1 CA
    go_wp2_with fail
    refine (CEa.out _ HB1.out).mono ?_
    rintro e w2 ⟨rfl, hb⟩
    have HB2 := Lib.hid (HB1.out.trans (hb.mono HB1.out.size))
    clear hb
    go_wp2_with fail
    refine (CEb.out _ HB2.out).mono ?_
    rintro e w3 ⟨rfl, hb⟩
    have HB3 := Lib.hid (HB2.out.trans (hb.mono HB2.out.size))
    clear hb
    go_wp2_with fail
    refine (CEc.out _ HB3.out).mono ?_
    rintro e w4 ⟨rfl, hb⟩
    have HB4 := Lib.hid (HB3.out.trans (hb.mono HB3.out.size))
    clear hb
    go_wp2_with fail
    refine (CEd.out _ HB4.out).mono ?_
    rintro e w5 ⟨rfl, hb⟩
    have HB5 := Lib.hid (HB4.out.trans (hb.mono HB4.out.size))
    clear hb
    go_wp2_with fail
    refine (CX.out _ HX.out _ HB5.out).mono ?_
    rintro e w6 ⟨A1, m1, rfl, hp1, hb⟩
    have HB6 := Lib.hid (HB5.out.trans (hb.mono HB5.out.size))
    have HP1 := Lib.hid hp1
    clear hp1
    clear hb
    go_wp2_with fail
    refine (CY.out _ HY.out _ HB6.out).mono ?_
    rintro e w7 ⟨A2, m2, rfl, hp2, hb⟩
    have HB7 := Lib.hid (HB6.out.trans (hb.mono HB6.out.size))
    have HP2 := Lib.hid hp2
    clear hp2
    clear hb
    go_wp2_with fail
    refine (CEd.out _ HB7.out).mono ?_
    rintro e w8 ⟨rfl, hb⟩
    have HB8 := Lib.hid (HB7.out.trans (hb.mono HB7.out.size))
    clear hb
    go_wp2_with fail
    refine (CT.out _ HT.out _ HB8.out).mono ?_
    rintro e w9 ⟨A3, m3, c3, rfl, hb⟩
    have HB9 := Lib.hid (HB8.out.trans (hb.mono HB8.out.size))
    clear hb
    go_wp2_with fail
    refine (CZ.out _ HZ.out _ HB9.out).mono ?_
    rintro e w10 ⟨A4, m4, rfl, hp4, hb⟩
    have HB10 := Lib.hid (HB9.out.trans (hb.mono HB9.out.size))
    have HP4 := Lib.hid hp4
    clear hp4
    clear hb
    have t1 : ((103 : Int) != 0) = true := by decide
    go_wp2_with fail
    go_ret
    exact ⟨rfl, HB10.out⟩
  | true =>
    simp only [gd4] at CZ
    generalize (ga && (gb && gc)) = G at *
    rw [if_pos rfl] at CT
    cases G with
    | false =>
      have hN3 : outN false PX = 103 := rfl
      have hL3 : outL false PX = [] := rfl
      unfold OnePost at CX CY CZ
      unfold ErrPost at CT CB
      rw [hN3, hL3] at CX CY CZ
      rw [if_neg (by decide)] at CB
      clear hN3 hL3
      have HS := Lib.hid (fun A A' c c' w => Ev.same_any [] A A' 0 c c' w rfl pks_nil pks_nil (by omega))
      simp only [List.length_nil] at CX CY CZ
      go_enter Tryz.func4, Tryz.ntmps4
      go_wp2_with fail
      refine CA.out.mono ?_
      rintro e w1 ⟨rfl, hb1⟩
      have HB1 := Lib.hid hb1
      clear hb1 CA
      go_wp2_with fail
      refine (CEa.out _ HB1.out).mono ?_
      rintro e w2 ⟨rfl, hb⟩
      have HB2 := Lib.hid (HB1.out.trans (hb.mono HB1.out.size))
      clear hb
      go_wp2_with fail
      refine (CEb.out _ HB2.out).mono ?_
      rintro e w3 ⟨rfl, hb⟩
      have HB3 := Lib.hid (HB2.out.trans (hb.mono HB2.out.size))
      clear hb
      go_wp2_with fail
      refine (CEc.out _ HB3.out).mono ?_
      rintro e w4 ⟨rfl, hb⟩
      have HB4 := Lib.hid (HB3.out.trans (hb.mono HB3.out.size))
      clear hb
      go_wp2_with fail
      refine (CEd.out _ HB4.out).mono ?_
      rintro e w5 ⟨rfl, hb⟩
      have HB5 := Lib.hid (HB4.out.trans (hb.mono HB4.out.size))
      clear hb
      go_wp2_with fail
      refine (CX.out _ HX.out _ HB5.out).mono ?_
      rintro e w6 ⟨A1, m1, rfl, hp1, hb⟩
      have HB6 := Lib.hid (HB5.out.trans (hb.mono HB5.out.size))
      have P1_6 := Lib.hid hp1
      clear hb hp1
      go_wp2_with fail
      refine (CY.out _ HY.out _ HB6.out).mono ?_
      rintro e w7 ⟨A2, m2, rfl, hp2, hb⟩
      have HB7 := Lib.hid (HB6.out.trans (hb.mono HB6.out.size))
      have P1_7 := Lib.hid (P1_6.out.below hb)
      have P2_7 := Lib.hid hp2
      clear hb P1_6 hp2
      go_wp2_with fail
      refine (CEd.out _ HB7.out).mono ?_
      rintro e w8 ⟨rfl, hb⟩
      have HB8 := Lib.hid (HB7.out.trans (hb.mono HB7.out.size))
      have P1_8 := Lib.hid (P1_7.out.below hb)
      have P2_8 := Lib.hid (P2_7.out.below hb)
      clear hb P1_7 P2_7
      go_wp2_with fail
      refine (CT.out _ HT.out _ HB8.out).mono ?_
      rintro e w9 ⟨A3, m3, c3, rfl, hb⟩
      have HB9 := Lib.hid (HB8.out.trans (hb.mono HB8.out.size))
      have P1_9 := Lib.hid (P1_8.out.below hb)
      have P2_9 := Lib.hid (P2_8.out.below hb)
      clear hb P1_8 P2_8
      go_wp2_with fail
      refine (CZ.out _ HZ.out _ HB9.out).mono ?_
      rintro e w10 ⟨A4, m4, rfl, hp4, hb⟩
      have HB10 := Lib.hid (HB9.out.trans (hb.mono HB9.out.size))
      have P1_10 := Lib.hid (P1_9.out.below hb)
      have P2_10 := Lib.hid (P2_9.out.below hb)
      have P4_10 := Lib.hid hp4
      clear hb P1_9 P2_9 hp4
      go_wp2_with fail
      refine (HS.out A1 A2 m1 m2 w10).mono ?_
      rintro e w11 ⟨rfl, hb⟩
      have HB11 := Lib.hid (HB10.out.trans (hb.mono HB10.out.size))
      have P1_11 := Lib.hid (P1_10.out.below hb)
      have P4_11 := Lib.hid (P4_10.out.below hb)
      clear hb P1_10 P4_10
      go_wp2_with fail
      refine (HS.out A1 A4 m1 m4 w11).mono ?_
      rintro e w12 ⟨rfl, hb⟩
      have HB12 := Lib.hid (HB11.out.trans (hb.mono HB11.out.size))
      clear hb
      go_wp2_with fail
      refine (CB.out _ HX.out _ HB12.out).mono ?_
      rintro e w13 ⟨A5, m5, c5, rfl, hb⟩
      have HB13 := Lib.hid (HB12.out.trans (hb.mono HB12.out.size))
      clear hb
      have t1 : ((103 : Int) != 0) = true := by decide
      go_wp2_with fail
      go_ret
      exact ⟨rfl, HB13.out⟩
    | true =>
      have hl := outL_le true PX
      unfold OnePost at CX CY CZ
      unfold ErrPost at CT CB
      rw [if_pos rfl] at CB
      generalize outL true PX = L1 at *
      generalize outN true PX = N1 at *
      obtain ⟨n, hn⟩ : ∃ n, n = L1.length := ⟨_, rfl⟩
      rw [← hn] at CX CY CZ hl
      have HS := Lib.hid (fun A A' c c' w h h' => Ev.same_any L1 A A' n c c' w hn.symm h h' (by omega))
      clear hn
      go_enter Tryz.func4, Tryz.ntmps4
      go_wp2_with fail
      refine CA.out.mono ?_
      rintro e w1 ⟨rfl, hb1⟩
      have HB1 := Lib.hid hb1
      clear hb1 CA
      go_wp2_with fail
      refine (CEa.out _ HB1.out).mono ?_
      rintro e w2 ⟨rfl, hb⟩
      have HB2 := Lib.hid (HB1.out.trans (hb.mono HB1.out.size))
      clear hb
      go_wp2_with fail
      refine (CEb.out _ HB2.out).mono ?_
      rintro e w3 ⟨rfl, hb⟩
      have HB3 := Lib.hid (HB2.out.trans (hb.mono HB2.out.size))
      clear hb
      go_wp2_with fail
      refine (CEc.out _ HB3.out).mono ?_
      rintro e w4 ⟨rfl, hb⟩
      have HB4 := Lib.hid (HB3.out.trans (hb.mono HB3.out.size))
      clear hb
      go_wp2_with fail
      refine (CEd.out _ HB4.out).mono ?_
      rintro e w5 ⟨rfl, hb⟩
      have HB5 := Lib.hid (HB4.out.trans (hb.mono HB4.out.size))
      clear hb
      go_wp2_with fail
      refine (CX.out _ HX.out _ HB5.out).mono ?_
      rintro e w6 ⟨A1, m1, rfl, hp1, hb⟩
      have HB6 := Lib.hid (HB5.out.trans (hb.mono HB5.out.size))
      have P1_6 := Lib.hid hp1
      clear hb hp1
      go_wp2_with fail
      refine (CY.out _ HY.out _ HB6.out).mono ?_
      rintro e w7 ⟨A2, m2, rfl, hp2, hb⟩
      have HB7 := Lib.hid (HB6.out.trans (hb.mono HB6.out.size))
      have P1_7 := Lib.hid (P1_6.out.below hb)
      have P2_7 := Lib.hid hp2
      clear hb P1_6 hp2
      go_wp2_with fail
      refine (CEd.out _ HB7.out).mono ?_
      rintro e w8 ⟨rfl, hb⟩
      have HB8 := Lib.hid (HB7.out.trans (hb.mono HB7.out.size))
      have P1_8 := Lib.hid (P1_7.out.below hb)
      have P2_8 := Lib.hid (P2_7.out.below hb)
      clear hb P1_7 P2_7
      go_wp2_with fail
      refine (CT.out _ HT.out _ HB8.out).mono ?_
      rintro e w9 ⟨A3, m3, c3, rfl, hb⟩
      have HB9 := Lib.hid (HB8.out.trans (hb.mono HB8.out.size))
      have P1_9 := Lib.hid (P1_8.out.below hb)
      have P2_9 := Lib.hid (P2_8.out.below hb)
      clear hb P1_8 P2_8
      go_wp2_with fail
      refine (CZ.out _ HZ.out _ HB9.out).mono ?_
      rintro e w10 ⟨A4, m4, rfl, hp4, hb⟩
      have HB10 := Lib.hid (HB9.out.trans (hb.mono HB9.out.size))
      have P1_10 := Lib.hid (P1_9.out.below hb)
      have P2_10 := Lib.hid (P2_9.out.below hb)
      have P4_10 := Lib.hid hp4
      clear hb P1_9 P2_9 hp4
      go_wp2_with fail
      refine (HS.out A1 A2 m1 m2 w10 P1_10.out P2_10.out).mono ?_
      rintro e w11 ⟨rfl, hb⟩
      have HB11 := Lib.hid (HB10.out.trans (hb.mono HB10.out.size))
      have P1_11 := Lib.hid (P1_10.out.below hb)
      have P4_11 := Lib.hid (P4_10.out.below hb)
      clear hb P1_10 P4_10
      go_wp2_with fail
      refine (HS.out A1 A4 m1 m4 w11 P1_11.out P4_11.out).mono ?_
      rintro e w12 ⟨rfl, hb⟩
      have HB12 := Lib.hid (HB11.out.trans (hb.mono HB11.out.size))
      clear hb
      go_wp2_with fail
      refine (CB.out _ HX.out _ HB12.out).mono ?_
      rintro e w13 ⟨A5, m5, c5, rfl, hb⟩
      have HB13 := Lib.hid (HB12.out.trans (hb.mono HB12.out.size))
      clear hb
      have t1 : (N1 == N1) = true := by simp
      go_wp2_with fail
      go_ret
      exact ⟨rfl, HB13.out⟩
end Go.Proofs.YtljldbdjkjllhaaGreatDoor

/- RpmmdApart: the law at what came in. -/
namespace Go.Proofs.YtljldbdjkjllhaaGreatDoor
set_option linter.unusedSimpArgs false
set_option linter.unusedVariables false
open Go.RowKit

theorem pow_mem {W : World} {laid : List (String × DataW Unit)} (hL : laidMet Tryz.prog laid W) (hm : ("internal/strconv.uint64pow10", (Rows.laid_internal_strconv_uint64pow10 : DataW Unit)) ∈ laid) : PowA W := by
  have e : (Rows.laid_internal_strconv_uint64pow10 : DataW Unit) = Lib.tabData .u64 Lib.pow10Tab := by kernel_rfl
  rw [e] at hm
  obtain ⟨ps, hv, _, _⟩ := hL
  obtain ⟨g', t', cs, fuel, p, hg', ht', hvar, hd, _⟩ := Ev.laidVars_mem laid ps hv _ _ hm
  have hg : Tryz.prog.globalNamed "internal/strconv.uint64pow10" = some 6 := by kernel_rfl
  have hty : (Tryz.prog.globals[6]?).map (·.type) = some 227 := by kernel_rfl
  obtain rfl := Option.some.inj (hg.symm.trans hg')
  obtain rfl := Option.some.inj (hty.symm.trans ht')
  unfold PowA Lib.TabIs
  rw [hvar, ← Lib.cells_of_tab Tryz.underlying227 Tryz.underlying203 (by kernel_rfl) (by kernel_rfl) hd]
theorem pow_below {W : World} (h : PowA W) : ∀ w', Below W.heap.size W w' → PowA w' := fun w' hb => Lib.tabBelow_of_tabIs h w' hb
theorem mk_of (s : ByteArray) : mkS s.data.toList = s := s_ext (by rw [mkS_list])
theorem small_str {H : Type} {s : ByteArray} {d : DataW H} {ds : List (DataW H)} (hd : d = .lit (.string s.data.toList)) (hm : d ∈ ds) (hk : Rows.uptoBulkAll ds ≤ 1048576) : s.data.toList.length ≤ 1048576 := by
  have h1 : ∀ (l : List (DataW H)) x, x ∈ l → Rows.uptoBulk x ≤ Rows.uptoBulkAll l := by
    intro l
    induction l with
    | nil => intro x hx; cases hx
    | cons y l ih =>
      intro x hx
      rw [Rows.uptoBulkAll]
      rcases List.mem_cons.1 hx with rfl | hx
      · omega
      · have := ih x hx; omega
  have h2 := h1 ds d hm
  rw [hd, Rows.uptoBulk] at h2
  omega
theorem apart_law (a b c d : Bs) (la : a.length ≤ 1048576) (lb : b.length ≤ 1048576) (lc : c.length ≤ 1048576) (ld : d.length ≤ 1048576) (W : World) {B : Nat} (hE : MdEnv B W) (hP : ∀ w', Below W.heap.size W w' → PowA w') :
    Calls Tryz.prog 4 #[.string (mkS a), .string (mkS b), .string (mkS c), .string (mkS d)] W fun e w' => e = .returned (.bool true) ∧ Below W.heap.size W w' := by
  by_cases h0 : 1000 < a.length
  · exact apart_longa a b c d la lb lc ld h0 W hE hP
  by_cases h1 : 1000 < b.length
  · exact apart_longb a b c d la lb lc ld h0 h1 W hE hP
  by_cases h2 : 1000 < c.length
  · exact apart_longc a b c d la lb lc ld h0 h1 h2 W hE hP
  by_cases h3 : 1000 < d.length
  · exact apart_longd a b c d la lb lc ld h0 h1 h2 h3 W hE hP
  · exact apart_main a b c d la lb lc ld (by omega) (by omega) (by omega) (by omega) W hE hP
theorem rpmmdApart_walk {H : Type} {enc : TypeId × Value → H} (W : World) {v0 v1 v2 v3 : Value} {d0 d1 d2 d3 : DataW H} (h0 : In enc Tryz.prog W 9 v0 d0) (h1 : In enc Tryz.prog W 9 v1 d1) (h2 : In enc Tryz.prog W 9 v2 d2) (h3 : In enc Tryz.prog W 9 v3 d3)
    (hL : laidMetH Tryz.prog Rows.rpmmdApartUptoRow.laid W) (hk : Rows.uptoBulkAll ([d0, d1, d2, d3] ++ []) ≤ 1048576) (hSh : W.ShapedOpen Tryz.prog) :
    Calls Tryz.prog 4 #[v0, v1, v2, v3] W (TrueBelow W) := by
  obtain ⟨s0, rfl, e0, -⟩ := h0.string Tryz.underlying9
  obtain ⟨s1, rfl, e1, -⟩ := h1.string Tryz.underlying9
  obtain ⟨s2, rfl, e2, -⟩ := h2.string Tryz.underlying9
  obtain ⟨s3, rfl, e3, -⟩ := h3.string Tryz.underlying9
  have l0 := small_str e0 (by simp) hk
  have l1 := small_str e1 (by simp) hk
  have l2 := small_str e2 (by simp) hk
  have l3 := small_str e3 (by simp) hk
  rw [MakeChecks.laidMetH_plain _ _ _ (by kernel_rfl)] at hL
  have hE := mdEnv_of hL (by simp [Rows.rpmmdApartUptoRow]) (by simp [Rows.rpmmdApartUptoRow]) (by simp [Rows.rpmmdApartUptoRow]) (by simp [Rows.rpmmdApartUptoRow]) (by simp [Rows.rpmmdApartUptoRow]) hSh
  have hP := pow_below (pow_mem hL (by simp [Rows.rpmmdApartUptoRow]))
  rw [← mk_of s0, ← mk_of s1, ← mk_of s2, ← mk_of s3]
  exact apart_law _ _ _ _ l0 l1 l2 l3 W hE hP
end Go.Proofs.YtljldbdjkjllhaaGreatDoor
