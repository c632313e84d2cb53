/- The contract of apart: a value in memory of its own. -/
import Derived.Test.YthgagobdkcikiaaDoorAddDir
import Derived.Test.YthgagobdkcikiaaDoorIdxF
import Derived.Lib.SliceRun
import Derived.Deep.OwnRows
namespace Go.Proofs.YthgagobdkcikiaaDoor
set_option linter.unusedSimpArgs false
set_option linter.unusedVariables false
open Go.RowKit

theorem results_one {fn : Func} {t : Tmp} {e : TypeId} (h : fn.results = #[.cell t e]) (tmps : Array Value) {P : Program} {w : World} {ad : Addr} (hp : tmps[t]?.getD undef = .pointer (some ad)) :
    (results fn tmps).run P w = (loadVar e ad).run P w := by
  simp [results, h, hp, asAddr]
theorem nil_none (n c : Nat) (w : World) : (binOp .eql 25 (.slice none n c) (.slice none 0 0)).run Tryd.prog w = .ok (.bool true) w := Lib.run_eql_slice_nil w _ _ none n c 0 0 Tryd.underlying25
theorem nil_some (a : Addr) (n c : Nat) (w : World) : (binOp .eql 25 (.slice (some a) n c) (.slice none 0 0)).run Tryd.prog w = .ok (.bool false) w := Lib.run_eql_slice_nil w _ _ (some a) n c 0 0 Tryd.underlying25
def ApartPost (w : World) (k n : Int) (s : ByteArray) (A : Option Addr) (ss : List ByteArray) (e : Ending) (w' : World) : Prop :=
  Below w.heap.size w w' ∧ ∃ r : RawN, e = .returned (valRN r) ∧ r.1.k = k ∧ r.1.n = n ∧ r.1.s = s ∧ RowAt w' r.1 ss ∧ (r.1.a = none ↔ A = none) ∧ ∀ b, r.1.a = some b → w.heap.size ≤ b
/-- A list's copy, as far as it has been made. -/
structure Made (w wx : World) (b : Nat) (ss : List ByteArray) (i : Nat) (r1 r2 : Array Value) : Prop where
  below : Below w.heap.size w wx
  one : Blk wx w.heap.size 37 r1
  two : Blk wx (w.heap.size + 1) 37 r2
  ge : w.heap.size + 2 ≤ b
  row : ∃ cs : Array Value, cs.size = ss.length ∧ Blk wx b 9 cs ∧ ∀ j, j < i → ∀ s, ss[j]? = some s → cs[j]? = some (.string s)
theorem Made.later {w wx w' : World} {b i : Nat} {ss : List ByteArray} {r1 r2 : Array Value} (h : Made w wx b ss i r1 r2) (hb : Below wx.heap.size wx w') : Made w w' b ss i r1 r2 := by
  obtain ⟨cs, h1, h2, h3⟩ := h.row
  exact ⟨h.below.trans (hb.mono h.below.size), h.one.below hb h.one.lt, h.two.below hb h.two.lt, h.ge, cs, h1, h2.below hb h2.lt, h3⟩
theorem Made.next {w wx : World} {b i : Nat} {ss : List ByteArray} {r1 r2 : Array Value} (h : Made w wx b ss i r1 r2) {t : ByteArray} (ht : ss[i]? = some t) : Made w (wx.setCell ⟨b, i, none⟩ (.string t)) b ss (i + 1) r1 r2 := by
  obtain ⟨cs, h1, h2, h3⟩ := h.row
  have hge := h.ge
  have hi := (List.getElem?_eq_some_iff.1 ht).1
  refine ⟨h.below.setCell (by simp only; omega) _, h.one.far (by simp only; omega) _, h.two.far (by simp only; omega) _, hge, _, by rw [Array.size_setIfInBounds]; exact h1, h2.set_ i _, fun j hj u hu => ?_⟩
  by_cases hji : j = i
  · subst hji
    rw [ht] at hu; injection hu with hu; subst hu
    rw [Array.getElem?_setIfInBounds]
    simp [h1, hi]
  · rw [Array.getElem?_setIfInBounds, if_neg (fun e => hji e.symm)]
    exact h3 j (by omega) u hu
theorem Made.full {w wx : World} {b : Nat} {ss : List ByteArray} {r1 r2 : Array Value} (h : Made w wx b ss ss.length r1 r2) : Blk wx b 9 (ss.map Value.string).toArray := by
  obtain ⟨cs, h1, h2, h3⟩ := h.row
  have e : cs = (ss.map Value.string).toArray := by
    apply Array.ext_getElem?
    intro j
    by_cases hj : j < ss.length
    · rw [h3 j hj ss[j] (List.getElem?_eq_getElem hj)]
      simp [hj]
    · rw [Array.getElem?_eq_none (by omega)]
      simp [Nat.le_of_not_lt hj]
  rw [← e]; exact h2
theorem apart_ret (tmps : Array Value) (W : World) (g : Nat) (k n : Int) (s : ByteArray) (v : Value) (hv : v = .slice none 0 0 ∨ ∃ b m, v = .slice (some ⟨b, 0, none⟩) m m) (hp : tmps[2]?.getD undef = .pointer (some ⟨g, 0, none⟩)) (hB : Blk W g 37 #[.int .i64 k, .int .i64 n, .string s, v]) :
    (results Tryd.f27 tmps).run Tryd.prog W = .ok (.agg #[.int .i64 k, .int .i64 n, .string s, v]) W := by
  have b0 := hB.cell 0
  have b1 := hB.cell 1
  have b2 := hB.cell 2
  have b3 := hB.cell 3
  simp at b0 b1 b2 b3
  refine (results_one rfl _ hp).trans ?_
  rcases hv with rfl | ⟨b, m, rfl⟩
  all_goals go_simp
set_option maxHeartbeats 2000000 in
set_option maxRecDepth 100000 in
theorem apart_any (k n : Int) (s : ByteArray) (A : Option Addr) (c : Nat) (ss : List ByteArray) (w : World) (hs : s.size ≤ 200) (hss : ∀ t, t ∈ ss → t.size ≤ 200) (hl : ss.length ≤ 200) (hA : Rd w w.heap.size A (ss.map Value.string)) (hnil : A = none → ss = [] ∧ c = 0) :
    Calls Tryd.prog 27 #[.agg #[.int .i64 k, .int .i64 n, .string s, .slice A ss.length c]] w (ApartPost w k n s A ss) := by
  have CL := Lib.hid (fun (t : ByteArray) (ht : t.size ≤ 200) w => clone_any t w (by omega))
  have HCS := Lib.hid (CL.out s hs)
  obtain ⟨wa, hwa⟩ : ∃ wa, wa = (w.alloc (.cells #[.int .i64 k, .int .i64 n, .string s, .slice A ss.length c] 37)).alloc (.cells #[.int .i64 0, .int .i64 0, .string ⟨#[]⟩, .slice none 0 0] 37) := ⟨_, rfl⟩
  have HBA : Hid (Below w.heap.size w wa) := by rw [hwa]; exact ((Below.refl _ _).alloc (Nat.le_refl _) _).alloc (by simp) _
  have K1 : Hid (Blk wa w.heap.size 37 #[.int .i64 k, .int .i64 n, .string s, .slice A ss.length c]) := by rw [hwa]; exact (Blk.new _ _ _).alloc _
  have K2 : Hid (Blk wa (w.heap.size + 1) 37 #[.int .i64 0, .int .i64 0, .string ⟨#[]⟩, .slice none 0 0]) := by rw [hwa]; exact Blk.new' (by simp)
  have hza : wa.heap.size = w.heap.size + 2 := by rw [hwa]; simp
  have a2 : wa.cell? ⟨w.heap.size, 2, none⟩ = some (.string s) := K1.out.cell 2
  have HA := Lib.hid hA
  have HSS := Lib.hid hss
  clear hA hss
  cases A with
  | none =>
    obtain ⟨rfl, rfl⟩ := hnil rfl
    clear hnil
    simp only [List.length_nil] at hwa K1 ⊢
    go_enter Tryd.func27, Tryd.ntmps27
    go_upto_region 1 with fail
    rw [← hwa]
    clear hwa
    go_wp2_with fail
    refine (HCS.out _).mono ?_
    rintro e w1 ⟨rfl, hb⟩
    have hz1 := hb.size
    have HB1 : Hid (Below w.heap.size w w1) := HBA.out.trans (hb.mono (by omega))
    have L1 := K1.out.below hb (by omega)
    have L2 := K2.out.below hb (by omega)
    have p0 := L1.cell 0
    have p1 := L1.cell 1
    have p2 := L1.cell 2
    have p3 := L1.cell 3
    have q2 := L1.free 2
    have r0 := L2.cell 0
    have r1 := L2.cell 1
    have r2 := L2.cell 2
    have r3 := L2.cell 3
    have f0 := L2.free 0
    have f1 := L2.free 1
    have f2 := L2.free 2
    have f3 := L2.free 3
    simp at p0 p1 p2 p3 r0 r1 r2 r3
    have qn := nil_none 0 0
    have HL1 := Lib.hid L1
    have HL2 := Lib.hid L2
    clear hb L1 L2 K1 K2 a2 HCS CL
    go_wp2_with fail
    have hne : w.heap.size + 1 ≠ w.heap.size := by omega
    have LE := ((((HL2.out.far (p := ⟨w.heap.size, 2, none⟩) hne (.string s)).set_ 0 (.int .i64 k)).set_ 1 (.int .i64 n)).set_ 2 (.string s)).set_ 3 (.slice none 0 0)
    simp at LE
    refine bodyPost_ret (v := .agg #[.int .i64 k, .int .i64 n, .string s, .slice none 0 0]) (apart_ret _ _ _ k n s _ (.inl rfl) rfl LE) rfl ?_
    refine ⟨((((HB1.out.setCell (by simp) _).setCell (by simp) _).setCell (by simp) _).setCell (by simp) _).setCell (by simp) _, ⟨⟨k, n, s, none, 0⟩, fun _ => rfl⟩, rfl, rfl, rfl, rfl, rfl, by simp, fun b hb => by cases hb⟩
  | some ad =>
    clear hnil
    have hmk := fun w => run_make_row' (P := Tryd.prog) 25 9 (.string ByteArray.empty) 16 Tryd.underlying25 infoS rfl .i64 .i64 ss.length (by omega) (by omega) w
    have hms : (madeCells #[Value.string ByteArray.empty] ss.length).size = ss.length := by
      have := size_madeCells #[Value.string ByteArray.empty] (ss.length * 1)
      simpa using this
    generalize madeCells #[Value.string ByteArray.empty] ss.length = mc at *
    have HMS := Lib.hid hms
    clear hms
    go_enter Tryd.func27, Tryd.ntmps27
    go_upto_region 1 with fail
    rw [← hwa]
    clear hwa
    go_wp2_with fail
    refine (HCS.out _).mono ?_
    rintro e w1 ⟨rfl, hb⟩
    have hz1 := hb.size
    have HB1 : Hid (Below w.heap.size w w1) := HBA.out.trans (hb.mono (by omega))
    have HL1 := Lib.hid (K1.out.below hb (by omega))
    have HL2 := Lib.hid (K2.out.below hb (by omega))
    have p0 := HL1.out.cell 0
    have p1 := HL1.out.cell 1
    have p2 := HL1.out.cell 2
    have p3 := HL1.out.cell 3
    have q2 := HL1.out.free 2
    simp at p0 p1 p2 p3
    have qn := nil_some ad ss.length c
    have hbz : w.heap.size < w1.heap.size := by omega
    have HMD : Hid (Made w ((w1.setCell ⟨w.heap.size, 2, none⟩ (.string s)).alloc (.cells mc 9)) w1.heap.size ss 0 #[.int .i64 k, .int .i64 n, .string s, .slice (some ad) ss.length c] #[.int .i64 0, .int .i64 0, .string ⟨#[]⟩, .slice none 0 0]) := by
      have hz2 : (w1.setCell ⟨w.heap.size, 2, none⟩ (.string s)).heap.size = w1.heap.size := by simp [World.setCell]
      refine ⟨(HB1.out.setCell (by simp) _).alloc (by rw [hz2]; omega) _, ?_, ?_, by omega, mc, HMS.out, Blk.new' hz2, fun j hj => by omega⟩
      · have := (HL1.out.set_ 2 (.string s)).alloc (.cells mc 9)
        simpa using this
      · exact (HL2.out.far (p := ⟨w.heap.size, 2, none⟩) (by simp) (.string s)).alloc _
    clear hb HL1 HL2 K1 K2 a2 HCS HBA HB1
    go_upto_region 5 with fail
    clear hmk qn p0 p1 p2 p3 q2
    clear hbz hz1
    generalize (w1.setCell ⟨w.heap.size, 2, none⟩ (.string s)).alloc (.cells mc 9) = w2 at *
    generalize w1.heap.size = b at *
    have HGE := Lib.hid HMD.out.ge
    have g3 := HMD.out.one.cell 3
    simp at g3
    go_wp2_with fail
    clear g3
    go_loopw [21] (fun v wx => ∃ i : Nat, i ≤ ss.length ∧ v = .int .i64 (i : Int) ∧ Hid (Made w wx b ss i #[.int .i64 k, .int .i64 n, .string s, .slice (some ad) ss.length c] #[.int .i64 0, .int .i64 0, .string ⟨#[]⟩, .slice none 0 0])) (fun v _ => ss.length - (intOf v).toNat)
    case atStart => exact ⟨0, Nat.zero_le _, rfl, HMD⟩
    case round =>
      clear HMD
      obtain ⟨i, hi, rfl, HM⟩ := hrel
      by_cases hlt : i < ss.length
      · obtain ⟨b0, o, e, hb0, hc⟩ := rd_str HA.out hlt
        injection e with e
        subst e
        have hc2 := (World.cell?_of_block (HM.out.below.block b0 hb0)).trans hc
        have C := Lib.hid (CL.out ss[i] (HSS.out _ (List.getElem_mem hlt)))
        have HT : Hid (ss[i]? = some ss[i]) := List.getElem?_eq_getElem hlt
        clear hc
        generalize ss[i] = t at *
        go_wp2_with fail
        refine (C.out _).mono ?_
        rintro e w3 ⟨rfl, hb3⟩
        have HM3 := Lib.hid (HM.out.later hb3)
        obtain ⟨cs, h1, h2, h3⟩ := HM3.out.row
        have hkc : i < cs.size := by omega
        have k2 := h2.cell i
        have f2 := h2.free i
        obtain ⟨old, hold⟩ : ∃ old, cs[i]? = some old := ⟨_, Array.getElem?_eq_getElem hkc⟩
        rw [hold] at k2
        have HN := Lib.hid (HM3.out.next HT.out)
        clear hb3 h1 h2 h3 hkc hold hc2 HM HM3 HT
        go_wp2_with fail
        go_roundw
        case rel => exact ⟨i + 1, by omega, by go_num, HN⟩
        case measure => simp [intOf]; omega
      · obtain rfl : i = ss.length := by omega
        have HBL := Lib.hid HM.out.below
        have HF := Lib.hid HM.out.full
        have HO := Lib.hid HM.out.one
        have HW := Lib.hid HM.out.two
        have p0 := HO.out.cell 0
        have p1 := HO.out.cell 1
        have p2 := HO.out.cell 2
        have p3 := HO.out.cell 3
        have q3 := HO.out.free 3
        have r0 := HW.out.cell 0
        have r1 := HW.out.cell 1
        have r2 := HW.out.cell 2
        have r3 := HW.out.cell 3
        have f0 := HW.out.free 0
        have f1 := HW.out.free 1
        have f2 := HW.out.free 2
        have f3 := HW.out.free 3
        simp at p0 p1 p2 p3 r0 r1 r2 r3
        clear HM
        go_wp2_with fail
        have hne : w.heap.size + 1 ≠ w.heap.size := by omega
        have LE := ((((HW.out.far (p := ⟨w.heap.size, 3, none⟩) hne (.slice (some ⟨b, 0, none⟩) ss.length ss.length)).set_ 0 (.int .i64 k)).set_ 1 (.int .i64 n)).set_ 2 (.string s)).set_ 3 (.slice (some ⟨b, 0, none⟩) ss.length ss.length)
        simp at LE
        refine bodyPost_ret (v := .agg #[.int .i64 k, .int .i64 n, .string s, .slice (some ⟨b, 0, none⟩) ss.length ss.length]) (apart_ret _ _ _ k n s _ (.inr ⟨b, ss.length, rfl⟩) rfl LE) rfl ?_
        have hge := HGE.out
        refine ⟨((((HBL.out.setCell (by simp) _).setCell (by simp) _).setCell (by simp) _).setCell (by simp) _).setCell (by simp) _, ⟨⟨k, n, s, some b, ss.length⟩, fun h => by cases h⟩, rfl, rfl, rfl, rfl, ⟨rfl, ?_⟩, by simp, fun b' hb => by injection hb with hb; omega⟩
        exact ((((HF.out.far (by simp only; omega) _).far (by simp only; omega) _).far (by simp only; omega) _).far (by simp only; omega) _).far (by simp only; omega) _
end Go.Proofs.YthgagobdkcikiaaDoor
