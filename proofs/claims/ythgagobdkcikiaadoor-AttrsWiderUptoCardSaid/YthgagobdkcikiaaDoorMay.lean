/- What Set refuses: maySet. -/
import Derived.Test.YthgagobdkcikiaaDoorVal
namespace Go.Proofs.YthgagobdkcikiaaDoor
set_option linter.unusedSimpArgs false
set_option linter.unusedVariables false
open Go.RowKit

def longS (t : ByteArray) : Bool := decide (200 < t.size)
def mayE (S : VSt) (id : Int) (key : ByteArray) (k n : Int) (s : ByteArray) (ss : List ByteArray) : Int :=
  if id < 0 ∨ 65535 < id then 1 else if keyB key = false then 80 else if valB k n s ss.length = false then 81 else if 200 < s.size ∨ 200 < ss.length ∨ ss.any longS = true then 82 else
  if (S.kind key).isSome = true then (if (S.kind key).getD 0 ≠ k then 81 else 0) else if 64 ≤ S.keys.length then 83 else 0
theorem kind_run {w : World} {mk n : Nat} {D : DataW Unit} {f : ByteArray → Option Int} (hM : w.ownsMap Tryd.prog 9 (plainElem Tryd.prog 3) mk n D) (hA : Agrees kdS (fun _ => True) D f) (key : ByteArray) (hk : key.size ≤ maxLen) :
    (Instr.lookup 51 (.map (some mk)) (.string key) true).run Tryd.prog w = .ok (.tuple #[.int .i64 ((f key).getD 0), .bool (f key).isSome]) w := by
  obtain ⟨v, ps, hrun, hv⟩ := hM.look_ok lawS Tryd.underlying51 (zeroI w) (plainElem_int (a := 0) Tryd.underlying3 (by decide)) (Go.WideMaps.keyOf_string_mk (P := Tryd.prog) Tryd.underlying9 hk)
  obtain ⟨c, rfl, hc, _⟩ := plainElem_int_inv Tryd.underlying3 hv
  have h1 := hA.at_ key trivial (congrArg Prod.fst hc)
  have h2 := hA.has key trivial
  unfold kdS at h2
  rw [h1, h2] at hrun
  exact hrun
set_option maxHeartbeats 40000000 in
set_option maxRecDepth 100000 in
theorem maySet_any (w : World) (bs : Nat) (vk : Value) (mk mv : Nat) (vd vp : Value) (S : VSt) (N : Nat) (hB : Blk w bs 56 #[vk, .map (some mk), .map (some mv), vd, vp]) (hV : ValP w vk mk mv S N) (id : Int) (key : ByteArray) (hkey : key.size ≤ maxLen)
    (k n : Int) (s : ByteArray) (A : Option Addr) (c : Nat) (ss : List ByteArray) (hA : Rd w w.heap.size A (ss.map Value.string)) (hl : ss.length ≤ c) (hc : c ≤ maxLen) :
    Calls Tryd.prog 25 #[.pointer (some ⟨bs, 0, none⟩), .int .i64 id, .string key, .agg #[.int .i64 k, .int .i64 n, .string s, .slice A ss.length c]] w fun e w' => e = .returned (.int .i64 (mayE S id key k n s ss)) ∧ Below w.heap.size w w' := by
  obtain ⟨x, hx⟩ : ∃ x, x = mayE S id key k n s ss := ⟨_, rfl⟩
  rw [← hx]
  have HX := Lib.hid hx
  clear hx
  unfold mayE at HX
  obtain ⟨D, hM, hAg⟩ := hV.kinds
  obtain ⟨Ak, ck, rfl, hk1, hk2⟩ := own_form' hV.row
  obtain ⟨wb, hwb⟩ : ∃ wb, wb = w.alloc (.cells #[.int .i64 k, .int .i64 n, .string s, .slice A ss.length c] 37) := ⟨_, rfl⟩
  have hbw : Below w.heap.size w wb := by rw [hwb]; exact (Below.refl _ _).alloc (Nat.le_refl _) _
  have hbl := hB.lt
  have hz : wb.heap.size = w.heap.size + 1 := by rw [hwb]; simp
  have HBB : Hid (Blk wb bs 56 #[.slice Ak S.keys.length ck, .map (some mk), .map (some mv), vd, vp]) := hB.below hbw hbl
  have HBX : Hid (Blk wb w.heap.size 37 #[.int .i64 k, .int .i64 n, .string s, .slice A ss.length c]) := by rw [hwb]; exact Blk.new _ _ _
  have hlk := kind_run (map_turned hM (Turned.of_below hbw []) (by simp)) hAg key hkey
  have c1 : wb.cell? ⟨bs, 1, none⟩ = some (.map (some mk)) := HBB.out.cell 1
  have CK := Lib.hid (fun w => isKey_any key w)
  have CV := Lib.hid (fun w => isValue_any k n s A ss.length c w)
  have CL := Lib.hid (fun w => isLong_any s w)
  have HAB : Hid (∀ wx, Below wb.heap.size wb wx → Rd wx wx.heap.size A (ss.map Value.string)) := fun wx hb j v hj => by
    obtain ⟨b, o, e1, e2, e3⟩ := hA j v hj
    have hz1 := hb.size
    exact ⟨b, o, e1, by omega, (World.cell?_of_block ((hbw.trans (hb.mono (by omega))).block b e2)).trans e3⟩
  have ef := enters_of Tryd.func38 (by kernel_rfl) rfl
  have CA : Hid (∀ wx, Below wb.heap.size wb wx → Calls Tryd.prog 29 #[.slice A ss.length c, .func (.func 38) #[] #[]] wx fun e w' => e = .returned (.bool (ss.any longS)) ∧ Below wx.heap.size wx w') := fun wx hb =>
    hasF_any 38 ef #[] longS ss A c wx (HAB.out wx hb) hl hc (fun d _ w' _ => (isLong_any d w').mono fun e w'' h => ⟨h.1, by rw [← h.2]; exact Below.refl _ _⟩)
  have HBW := Lib.hid hbw
  unfold maxLen at hc hk2 hkey
  clear hM hAg hV hbw hA hB HAB ef
  generalize (S.kind key).getD 0 = kd at *
  generalize (S.kind key).isSome = th at *
  generalize ss.any longS = al at *
  generalize S.keys.length = KL at *
  generalize ss.length = L at *

  by_cases a1 : id < 0
  · have HV : Hid (x = 1) := HX.out.trans (by rw [if_pos (.inl a1)])
    clear HX
    go_enter Tryd.func25, Tryd.ntmps25
    go_upto_region 1 with fail
    rw [← hwb]
    clear hwb
    go_wp2_with fail
    go_ret
    exact ⟨by rw [HV.out]; rfl, HBW.out⟩
  by_cases a2 : 65535 < id
  · have HV : Hid (x = 1) := HX.out.trans (by rw [if_pos (.inr a2)])
    clear HX
    go_enter Tryd.func25, Tryd.ntmps25
    go_upto_region 1 with fail
    rw [← hwb]
    clear hwb
    go_wp2_with fail
    go_ret
    exact ⟨by rw [HV.out]; rfl, HBW.out⟩
  have HX := Lib.hid (HX.out.trans (if_neg (fun h => h.elim a1 a2)))
  cases hkb : keyB key with
  | false =>
    rw [hkb] at HX CK
    clear hkb
    have HV : Hid (x = 80) := HX.out.trans (by rw [if_pos rfl])
    clear HX
    go_enter Tryd.func25, Tryd.ntmps25
    go_upto_region 1 with fail
    rw [← hwb]
    clear hwb
    go_wp2_with fail
    refine (CK.out _).mono ?_
    rintro e w1 ⟨rfl, hb1⟩
    have hz1 := hb1.size
    have X1 : Hid (Blk w1 w.heap.size 37 #[.int .i64 k, .int .i64 n, .string s, .slice A L c]) := HBX.out.below hb1 (by omega)
    have T1 := Lib.hid hb1
    have p0 := X1.out.cell 0
    have p1 := X1.out.cell 1
    have p2 := X1.out.cell 2
    have p3 := X1.out.cell 3
    simp at p0 p1 p2 p3
    clear hb1 CK hlk c1
    go_wp2_with fail
    go_ret
    exact ⟨by rw [HV.out]; rfl, HBW.out.trans (T1.out.mono (by omega))⟩
  | true =>
  rw [hkb] at HX CK
  have HX := Lib.hid (HX.out.trans (if_neg (by decide)))
  clear hkb
  cases hvb : valB k n s L with
  | false =>
    rw [hvb] at HX CV
    clear hvb
    have HV : Hid (x = 81) := HX.out.trans (by rw [if_pos rfl])
    clear HX
    go_enter Tryd.func25, Tryd.ntmps25
    go_upto_region 1 with fail
    rw [← hwb]
    clear hwb
    go_wp2_with fail
    refine (CK.out _).mono ?_
    rintro e w1 ⟨rfl, hb1⟩
    have hz1 := hb1.size
    have X1 : Hid (Blk w1 w.heap.size 37 #[.int .i64 k, .int .i64 n, .string s, .slice A L c]) := HBX.out.below hb1 (by omega)
    have T1 := Lib.hid hb1
    have p0 := X1.out.cell 0
    have p1 := X1.out.cell 1
    have p2 := X1.out.cell 2
    have p3 := X1.out.cell 3
    simp at p0 p1 p2 p3
    clear hb1 CK hlk c1
    go_wp2_with fail
    refine (CV.out _).mono ?_
    rintro e w2 ⟨rfl, hb2⟩
    have hz2 := hb2.size
    have X2 : Hid (Blk w2 w.heap.size 37 #[.int .i64 k, .int .i64 n, .string s, .slice A L c]) := X1.out.below hb2 (by omega)
    have T2 : Hid (Below wb.heap.size wb w2) := T1.out.trans (hb2.mono hz1)
    clear p0 p1 p2 p3 hb2 CV
    have p0 := X2.out.cell 0
    have p2 := X2.out.cell 2
    have p3 := X2.out.cell 3
    simp at p0 p2 p3
    go_wp2_with fail
    go_ret
    exact ⟨by rw [HV.out]; rfl, HBW.out.trans (T2.out.mono (by omega))⟩
  | true =>
  rw [hvb] at HX CV
  have HX := Lib.hid (HX.out.trans (if_neg (by decide)))
  clear hvb
  by_cases s2 : 200 < s.size
  · have e2 : decide (200 < s.size) = true := by simpa using s2
    rw [e2] at CL
    clear e2
    have HV : Hid (x = 82) := HX.out.trans (by rw [if_pos (.inl s2)])
    clear HX
    go_enter Tryd.func25, Tryd.ntmps25
    go_upto_region 1 with fail
    rw [← hwb]
    clear hwb
    go_wp2_with fail
    refine (CK.out _).mono ?_
    rintro e w1 ⟨rfl, hb1⟩
    have hz1 := hb1.size
    have X1 : Hid (Blk w1 w.heap.size 37 #[.int .i64 k, .int .i64 n, .string s, .slice A L c]) := HBX.out.below hb1 (by omega)
    have T1 := Lib.hid hb1
    have p0 := X1.out.cell 0
    have p1 := X1.out.cell 1
    have p2 := X1.out.cell 2
    have p3 := X1.out.cell 3
    simp at p0 p1 p2 p3
    clear hb1 CK hlk c1
    go_wp2_with fail
    refine (CV.out _).mono ?_
    rintro e w2 ⟨rfl, hb2⟩
    have hz2 := hb2.size
    have X2 : Hid (Blk w2 w.heap.size 37 #[.int .i64 k, .int .i64 n, .string s, .slice A L c]) := X1.out.below hb2 (by omega)
    have T2 : Hid (Below wb.heap.size wb w2) := T1.out.trans (hb2.mono hz1)
    clear p0 p1 p2 p3 hb2 CV
    have p0 := X2.out.cell 0
    have p2 := X2.out.cell 2
    have p3 := X2.out.cell 3
    simp at p0 p2 p3
    go_wp2_with fail
    refine (CL.out _).mono ?_
    rintro e w3 ⟨rfl, rfl⟩
    go_wp2_with fail
    go_ret
    exact ⟨by rw [HV.out]; rfl, HBW.out.trans (T2.out.mono (by omega))⟩
  have e2 : decide (200 < s.size) = false := by simpa using s2
  rw [e2] at CL
  clear e2
  by_cases l2 : 200 < L
  · have l2' : (200 : Int) < (L : Int) := by omega
    have HV : Hid (x = 82) := HX.out.trans (by rw [if_pos (.inr (.inl l2))])
    clear HX
    go_enter Tryd.func25, Tryd.ntmps25
    go_upto_region 1 with fail
    rw [← hwb]
    clear hwb
    go_wp2_with fail
    refine (CK.out _).mono ?_
    rintro e w1 ⟨rfl, hb1⟩
    have hz1 := hb1.size
    have X1 : Hid (Blk w1 w.heap.size 37 #[.int .i64 k, .int .i64 n, .string s, .slice A L c]) := HBX.out.below hb1 (by omega)
    have T1 := Lib.hid hb1
    have p0 := X1.out.cell 0
    have p1 := X1.out.cell 1
    have p2 := X1.out.cell 2
    have p3 := X1.out.cell 3
    simp at p0 p1 p2 p3
    clear hb1 CK hlk c1
    go_wp2_with fail
    refine (CV.out _).mono ?_
    rintro e w2 ⟨rfl, hb2⟩
    have hz2 := hb2.size
    have X2 : Hid (Blk w2 w.heap.size 37 #[.int .i64 k, .int .i64 n, .string s, .slice A L c]) := X1.out.below hb2 (by omega)
    have T2 : Hid (Below wb.heap.size wb w2) := T1.out.trans (hb2.mono hz1)
    clear p0 p1 p2 p3 hb2 CV
    have p0 := X2.out.cell 0
    have p2 := X2.out.cell 2
    have p3 := X2.out.cell 3
    simp at p0 p2 p3
    go_wp2_with fail
    refine (CL.out _).mono ?_
    rintro e w3 ⟨rfl, rfl⟩
    go_wp2_with fail
    go_ret
    exact ⟨by rw [HV.out]; rfl, HBW.out.trans (T2.out.mono (by omega))⟩
  have l2' : ¬ (200 : Int) < (L : Int) := by omega
  cases al with
  | true =>
    have HV : Hid (x = 82) := HX.out.trans (by rw [if_pos (.inr (.inr rfl))])
    clear HX
    go_enter Tryd.func25, Tryd.ntmps25
    go_upto_region 1 with fail
    rw [← hwb]
    clear hwb
    go_wp2_with fail
    refine (CK.out _).mono ?_
    rintro e w1 ⟨rfl, hb1⟩
    have hz1 := hb1.size
    have X1 : Hid (Blk w1 w.heap.size 37 #[.int .i64 k, .int .i64 n, .string s, .slice A L c]) := HBX.out.below hb1 (by omega)
    have T1 := Lib.hid hb1
    have p0 := X1.out.cell 0
    have p1 := X1.out.cell 1
    have p2 := X1.out.cell 2
    have p3 := X1.out.cell 3
    simp at p0 p1 p2 p3
    clear hb1 CK hlk c1
    go_wp2_with fail
    refine (CV.out _).mono ?_
    rintro e w2 ⟨rfl, hb2⟩
    have hz2 := hb2.size
    have X2 : Hid (Blk w2 w.heap.size 37 #[.int .i64 k, .int .i64 n, .string s, .slice A L c]) := X1.out.below hb2 (by omega)
    have T2 : Hid (Below wb.heap.size wb w2) := T1.out.trans (hb2.mono hz1)
    clear p0 p1 p2 p3 hb2 CV
    have p0 := X2.out.cell 0
    have p2 := X2.out.cell 2
    have p3 := X2.out.cell 3
    simp at p0 p2 p3
    go_wp2_with fail
    refine (CL.out _).mono ?_
    rintro e w3 ⟨rfl, rfl⟩
    go_wp2_with fail
    refine (CA.out _ T2.out).mono ?_
    rintro e w3 ⟨rfl, hb3⟩
    have X3 : Hid (Blk w3 w.heap.size 37 #[.int .i64 k, .int .i64 n, .string s, .slice A L c]) := X2.out.below hb3 (by omega)
    have T3 : Hid (Below wb.heap.size wb w3) := T2.out.trans (hb3.mono (by omega))
    have B3 : Hid (Blk w3 bs 56 #[.slice Ak KL ck, .map (some mk), .map (some mv), vd, vp]) := HBB.out.below T3.out (by omega)
    clear p0 p2 p3 hb3 CA CL
    have p0 := X3.out.cell 0
    have c0 := B3.out.cell 0
    simp at p0 c0
    go_wp2_with fail
    go_ret
    exact ⟨by rw [HV.out]; rfl, HBW.out.trans (T3.out.mono (by omega))⟩
  | false =>
  have HX := Lib.hid (HX.out.trans (if_neg (fun h => h.elim s2 (fun h => h.elim l2 (fun h => by cases h)))))
  cases th with
  | true =>
    have HX := Lib.hid (HX.out.trans (if_pos rfl))
    rcases num_cs kd k with ⟨q0, q1, q2⟩ | ⟨q0, q1, q2⟩
    · have HV : Hid (x = 0) := HX.out.trans (by rw [if_neg (fun h => h q0)])
      clear HX
      go_enter Tryd.func25, Tryd.ntmps25
      go_upto_region 1 with fail
      rw [← hwb]
      clear hwb
      go_wp2_with fail
      refine (CK.out _).mono ?_
      rintro e w1 ⟨rfl, hb1⟩
      have hz1 := hb1.size
      have X1 : Hid (Blk w1 w.heap.size 37 #[.int .i64 k, .int .i64 n, .string s, .slice A L c]) := HBX.out.below hb1 (by omega)
      have T1 := Lib.hid hb1
      have p0 := X1.out.cell 0
      have p1 := X1.out.cell 1
      have p2 := X1.out.cell 2
      have p3 := X1.out.cell 3
      simp at p0 p1 p2 p3
      clear hb1 CK hlk c1
      go_wp2_with fail
      refine (CV.out _).mono ?_
      rintro e w2 ⟨rfl, hb2⟩
      have hz2 := hb2.size
      have X2 : Hid (Blk w2 w.heap.size 37 #[.int .i64 k, .int .i64 n, .string s, .slice A L c]) := X1.out.below hb2 (by omega)
      have T2 : Hid (Below wb.heap.size wb w2) := T1.out.trans (hb2.mono hz1)
      clear p0 p1 p2 p3 hb2 CV
      have p0 := X2.out.cell 0
      have p2 := X2.out.cell 2
      have p3 := X2.out.cell 3
      simp at p0 p2 p3
      go_wp2_with fail
      refine (CL.out _).mono ?_
      rintro e w3 ⟨rfl, rfl⟩
      go_wp2_with fail
      refine (CA.out _ T2.out).mono ?_
      rintro e w3 ⟨rfl, hb3⟩
      have X3 : Hid (Blk w3 w.heap.size 37 #[.int .i64 k, .int .i64 n, .string s, .slice A L c]) := X2.out.below hb3 (by omega)
      have T3 : Hid (Below wb.heap.size wb w3) := T2.out.trans (hb3.mono (by omega))
      have B3 : Hid (Blk w3 bs 56 #[.slice Ak KL ck, .map (some mk), .map (some mv), vd, vp]) := HBB.out.below T3.out (by omega)
      clear p0 p2 p3 hb3 CA CL
      have p0 := X3.out.cell 0
      have c0 := B3.out.cell 0
      simp at p0 c0
      go_wp2_with fail
      go_ret
      exact ⟨by rw [HV.out]; rfl, HBW.out.trans (T3.out.mono (by omega))⟩
    · have HV : Hid (x = 81) := HX.out.trans (by rw [if_pos q0])
      clear HX
      go_enter Tryd.func25, Tryd.ntmps25
      go_upto_region 1 with fail
      rw [← hwb]
      clear hwb
      go_wp2_with fail
      refine (CK.out _).mono ?_
      rintro e w1 ⟨rfl, hb1⟩
      have hz1 := hb1.size
      have X1 : Hid (Blk w1 w.heap.size 37 #[.int .i64 k, .int .i64 n, .string s, .slice A L c]) := HBX.out.below hb1 (by omega)
      have T1 := Lib.hid hb1
      have p0 := X1.out.cell 0
      have p1 := X1.out.cell 1
      have p2 := X1.out.cell 2
      have p3 := X1.out.cell 3
      simp at p0 p1 p2 p3
      clear hb1 CK hlk c1
      go_wp2_with fail
      refine (CV.out _).mono ?_
      rintro e w2 ⟨rfl, hb2⟩
      have hz2 := hb2.size
      have X2 : Hid (Blk w2 w.heap.size 37 #[.int .i64 k, .int .i64 n, .string s, .slice A L c]) := X1.out.below hb2 (by omega)
      have T2 : Hid (Below wb.heap.size wb w2) := T1.out.trans (hb2.mono hz1)
      clear p0 p1 p2 p3 hb2 CV
      have p0 := X2.out.cell 0
      have p2 := X2.out.cell 2
      have p3 := X2.out.cell 3
      simp at p0 p2 p3
      go_wp2_with fail
      refine (CL.out _).mono ?_
      rintro e w3 ⟨rfl, rfl⟩
      go_wp2_with fail
      refine (CA.out _ T2.out).mono ?_
      rintro e w3 ⟨rfl, hb3⟩
      have X3 : Hid (Blk w3 w.heap.size 37 #[.int .i64 k, .int .i64 n, .string s, .slice A L c]) := X2.out.below hb3 (by omega)
      have T3 : Hid (Below wb.heap.size wb w3) := T2.out.trans (hb3.mono (by omega))
      have B3 : Hid (Blk w3 bs 56 #[.slice Ak KL ck, .map (some mk), .map (some mv), vd, vp]) := HBB.out.below T3.out (by omega)
      clear p0 p2 p3 hb3 CA CL
      have p0 := X3.out.cell 0
      have c0 := B3.out.cell 0
      simp at p0 c0
      go_wp2_with fail
      go_ret
      exact ⟨by rw [HV.out]; rfl, HBW.out.trans (T3.out.mono (by omega))⟩
  | false =>
    have HX := Lib.hid (HX.out.trans (if_neg (by decide)))
    by_cases m1 : 64 ≤ KL
    · have m2 : (64 : Int) ≤ (KL : Int) := by omega
      have HV : Hid (x = 83) := HX.out.trans (by rw [if_pos m1])
      clear HX
      go_enter Tryd.func25, Tryd.ntmps25
      go_upto_region 1 with fail
      rw [← hwb]
      clear hwb
      go_wp2_with fail
      refine (CK.out _).mono ?_
      rintro e w1 ⟨rfl, hb1⟩
      have hz1 := hb1.size
      have X1 : Hid (Blk w1 w.heap.size 37 #[.int .i64 k, .int .i64 n, .string s, .slice A L c]) := HBX.out.below hb1 (by omega)
      have T1 := Lib.hid hb1
      have p0 := X1.out.cell 0
      have p1 := X1.out.cell 1
      have p2 := X1.out.cell 2
      have p3 := X1.out.cell 3
      simp at p0 p1 p2 p3
      clear hb1 CK hlk c1
      go_wp2_with fail
      refine (CV.out _).mono ?_
      rintro e w2 ⟨rfl, hb2⟩
      have hz2 := hb2.size
      have X2 : Hid (Blk w2 w.heap.size 37 #[.int .i64 k, .int .i64 n, .string s, .slice A L c]) := X1.out.below hb2 (by omega)
      have T2 : Hid (Below wb.heap.size wb w2) := T1.out.trans (hb2.mono hz1)
      clear p0 p1 p2 p3 hb2 CV
      have p0 := X2.out.cell 0
      have p2 := X2.out.cell 2
      have p3 := X2.out.cell 3
      simp at p0 p2 p3
      go_wp2_with fail
      refine (CL.out _).mono ?_
      rintro e w3 ⟨rfl, rfl⟩
      go_wp2_with fail
      refine (CA.out _ T2.out).mono ?_
      rintro e w3 ⟨rfl, hb3⟩
      have X3 : Hid (Blk w3 w.heap.size 37 #[.int .i64 k, .int .i64 n, .string s, .slice A L c]) := X2.out.below hb3 (by omega)
      have T3 : Hid (Below wb.heap.size wb w3) := T2.out.trans (hb3.mono (by omega))
      have B3 : Hid (Blk w3 bs 56 #[.slice Ak KL ck, .map (some mk), .map (some mv), vd, vp]) := HBB.out.below T3.out (by omega)
      clear p0 p2 p3 hb3 CA CL
      have p0 := X3.out.cell 0
      have c0 := B3.out.cell 0
      simp at p0 c0
      go_wp2_with fail
      go_ret
      exact ⟨by rw [HV.out]; rfl, HBW.out.trans (T3.out.mono (by omega))⟩
    · have m2 : ¬ (64 : Int) ≤ (KL : Int) := by omega
      have HV : Hid (x = 0) := HX.out.trans (by rw [if_neg m1])
      clear HX
      go_enter Tryd.func25, Tryd.ntmps25
      go_upto_region 1 with fail
      rw [← hwb]
      clear hwb
      go_wp2_with fail
      refine (CK.out _).mono ?_
      rintro e w1 ⟨rfl, hb1⟩
      have hz1 := hb1.size
      have X1 : Hid (Blk w1 w.heap.size 37 #[.int .i64 k, .int .i64 n, .string s, .slice A L c]) := HBX.out.below hb1 (by omega)
      have T1 := Lib.hid hb1
      have p0 := X1.out.cell 0
      have p1 := X1.out.cell 1
      have p2 := X1.out.cell 2
      have p3 := X1.out.cell 3
      simp at p0 p1 p2 p3
      clear hb1 CK hlk c1
      go_wp2_with fail
      refine (CV.out _).mono ?_
      rintro e w2 ⟨rfl, hb2⟩
      have hz2 := hb2.size
      have X2 : Hid (Blk w2 w.heap.size 37 #[.int .i64 k, .int .i64 n, .string s, .slice A L c]) := X1.out.below hb2 (by omega)
      have T2 : Hid (Below wb.heap.size wb w2) := T1.out.trans (hb2.mono hz1)
      clear p0 p1 p2 p3 hb2 CV
      have p0 := X2.out.cell 0
      have p2 := X2.out.cell 2
      have p3 := X2.out.cell 3
      simp at p0 p2 p3
      go_wp2_with fail
      refine (CL.out _).mono ?_
      rintro e w3 ⟨rfl, rfl⟩
      go_wp2_with fail
      refine (CA.out _ T2.out).mono ?_
      rintro e w3 ⟨rfl, hb3⟩
      have X3 : Hid (Blk w3 w.heap.size 37 #[.int .i64 k, .int .i64 n, .string s, .slice A L c]) := X2.out.below hb3 (by omega)
      have T3 : Hid (Below wb.heap.size wb w3) := T2.out.trans (hb3.mono (by omega))
      have B3 : Hid (Blk w3 bs 56 #[.slice Ak KL ck, .map (some mk), .map (some mv), vd, vp]) := HBB.out.below T3.out (by omega)
      clear p0 p2 p3 hb3 CA CL
      have p0 := X3.out.cell 0
      have c0 := B3.out.cell 0
      simp at p0 c0
      go_wp2_with fail
      go_ret
      exact ⟨by rw [HV.out]; rfl, HBW.out.trans (T3.out.mono (by omega))⟩
end Go.Proofs.YthgagobdkcikiaaDoor
