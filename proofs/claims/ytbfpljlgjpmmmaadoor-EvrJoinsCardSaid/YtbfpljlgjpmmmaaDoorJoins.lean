/- The walk of EvrJoins. -/
import Derived.Test.YtbfpljlgjpmmmaaDoorAwake
import Derived.Test.YtbfpljlgjpmmmaaDoorFacts
import Derived.BigGuardPart
namespace Go.Proofs.YtbfpljlgjpmmmaaDoor
set_option linter.unusedSimpArgs false
set_option linter.unusedVariables false
open Go.RowKit

theorem same_meets {kind : Int} {p : Parts} {qe qv qr va : ByteArray} (hk : kindB kind = true) (hv : va.data.toList = p.v) (hvn : p.v ≠ []) (he : p.e = []) (hQ : evrV (parse p.v) = .agg #[.string qe, .string qv, .string qr]) (h1 : qe.toList = []) (h2 : qv.toList = va.toList) (h3 : qr.toList = []) :
    meetB kind 2 2 (parse p.v) (some p) = true ∧ meetE kind 2 2 (parse p.v) (some p) = 0 := by
  rw [ByteArray.toList_eq] at h1 h3
  rw [ByteArray.toList_eq, ByteArray.toList_eq, hv] at h2
  cases hx : parse p.v with
  | none =>
    exfalso
    rw [hx] at hQ
    unfold evrV at hQ
    injection hQ with hQ
    injection hQ with hQ
    injection hQ with _ hQ
    injection hQ with hQ _
    injection hQ with hQ
    rw [← hQ] at h2
    exact hvn h2.symm
  | some x =>
    rw [hx] at hQ
    unfold evrV at hQ
    injection hQ with hQ
    injection hQ with hQ
    injection hQ with a1 hQ
    injection hQ with a2 hQ
    injection hQ with a3 _
    injection a1 with a1
    injection a2 with a2
    injection a3 with a3
    have x1 : x.e = [] := by rw [← a1] at h1; exact h1
    have x2 : x.v = p.v := by rw [← a2] at h2; exact h2
    have x3 : x.r = [] := by rw [← a3] at h3; exact h3
    have hc : cmpEV kind x p = 0 := by
      unfold cmpEV
      rw [x1, x2, he, show cmpNum [] [] = 0 from rfl, (ordTxt kind).self]; rfl
    have hm : meetC kind x p = 0 := by
      unfold meetC
      rw [if_neg (fun h => h.2.1 x3), hc]
    constructor
    · unfold meetB
      rw [hk, show opB 2 = true by decide, show (true && true && true) = true from rfl, if_pos rfl, if_neg (by decide)]
      simp only
      rw [hm]; decide
    · unfold meetE bothErr
      rw [hk, show opB 2 = true by decide, show (true && true && true) = true from rfl, if_pos rfl, if_neg (by decide), if_pos rfl]
      rfl
theorem bl_app (a b : ByteArray) : (a ++ b).data.toList = a.data.toList ++ b.data.toList := by simp
set_option maxHeartbeats 8000000 in
set_option maxRecDepth 1000000 in
theorem evrJoins_walk {H : Type} {enc : TypeId × Value → H} (W : World) {v0 v1 : Value} {d0 d1 : DataW H} (h0 : In enc Tryd.prog W 9 v0 d0) (h1 : In enc Tryd.prog W 3 v1 d1)
    (hL : laidMetH Tryd.prog Rows.evrJoinsRow.laid W) (hsz : (DataW.weightsEach Tryd.prog [9, 3] [d0, d1]).all (· ≤ reachBytes) = true) :
    Calls Tryd.prog 8 #[v0, v1] W (TrueBelow W) := by
  obtain ⟨s, rfl, _, _⟩ := h0.string Tryd.underlying9
  obtain ⟨kind, rfl, _, _⟩ := h1.int Tryd.underlying3
  clear h0 h1 hL hsz
  have PA := Lib.hid (fun w => parse_any s w)
  cases hp : parse s.data.toList with
  | none =>
    rw [hp] at PA
    unfold evrV errV at PA
    clear hp
    go_enter Tryd.func8, Tryd.ntmps8
    go_wp2_with fail
    refine (awake_any _).mono ?_
    rintro e w1 ⟨rfl, hb1⟩
    have HB1 := Lib.hid hb1
    have hz1 := hb1.size
    clear hb1
    go_wp2_with fail
    refine (PA.out _).mono ?_
    rintro e w2 ⟨rfl, hb2⟩
    have HB2 : Hid (Below W.heap.size W w2) := HB1.out.trans (hb2.mono hz1)
    have hz2 := HB2.out.size
    clear hb2
    go_wp2_with fail
    go_ret
    exact ⟨rfl, HB2.out.alloc hz2 _⟩
  | some p =>
    rw [hp] at PA
    have J := parse_join hp
    have S := parse_size hp
    obtain ⟨ea, hea⟩ : ∃ e, e = mkS p.e := ⟨_, rfl⟩
    obtain ⟨va, hva⟩ : ∃ e, e = mkS p.v := ⟨_, rfl⟩
    obtain ⟨ra, hra⟩ : ∃ e, e = mkS p.r := ⟨_, rfl⟩
    have hA : evrV (some p) = .agg #[.string ea, .string va, .string ra] := by rw [hea, hva, hra]; rfl
    rw [hA] at PA
    unfold errV at PA
    have se : ea.size ≤ 60 := by rw [hea, mkS_size]; omega
    have sv : va.size ≤ 60 := by rw [hva, mkS_size]; omega
    have sr : ra.size ≤ 60 := by rw [hra, mkS_size]; omega
    have le : ea.data.toList = p.e := by rw [hea]; rfl
    have lv : va.data.toList = p.v := by rw [hva]; rfl
    have lr : ra.data.toList = p.r := by rw [hra]; rfl
    have hvn := J.2.1
    by_cases ze : ea.size = 0
    · have pe : p.e = [] := by rw [← le]; exact list_nil ze
      have hX : s.data.toList = p.v ++ (if p.r = [] then [] else 45 :: p.r) := by
        rw [join_is hp]; unfold joinL tailP; rw [if_pos pe]; rfl
      obtain rfl := empty_of ze
      by_cases hk : kindB kind = true ∧ s.size ≤ 50
      · skip
        have s50 := hk.2
        have ck : kind = 1 ∨ kind = 2 := by have := hk.1; unfold kindB at this; simpa using this
        have hE : ∀ x y : Parts, bothErr kind (some x) (some y) = 0 := fun x y => by unfold bothErr; rw [if_pos hk.1]; rfl
        have hO : ∀ x y : Parts, cmpO kind (some x) (some y) = cmpEvr kind x y := fun x y => by
          show (if kindB kind = true then cmpEvr kind x y else 0) = _
          rw [if_pos hk.1]
        have CL := Lib.hid (fun w => compare_any kind s (⟨#[49, 58]⟩ ++ s) w)
        have CS := Lib.hid (fun w => compare_any kind s (⟨#[48, 58]⟩ ++ s) w)
        rw [bl_app] at CL CS
        have q1 : parse (49 :: 58 :: s.data.toList) = some ⟨[49], p.v, p.r⟩ := parse_epoch hp pe (by rw [size_len]; exact s50) (by decide)
        have q0 : parse (48 :: 58 :: s.data.toList) = some ⟨[48], p.v, p.r⟩ := parse_epoch hp pe (by rw [size_len]; exact s50) (by decide)
        have l1 : cmpEvr kind p ⟨[49], p.v, p.r⟩ = -1 := by unfold cmpEvr cmpEV; rw [pe]; rfl
        have l0 : cmpEvr kind p ⟨[48], p.v, p.r⟩ = 0 := by
          unfold cmpEvr cmpEV
          rw [pe, show cmpNum [] [48] = 0 from rfl, (ordTxt kind).self, (ordRel kind).self]; rfl
        rw [show ((⟨#[49, 58]⟩ : ByteArray).data.toList ++ s.data.toList) = 49 :: 58 :: s.data.toList from rfl, q1, hp, hO, hE, l1] at CL
        rw [show ((⟨#[48, 58]⟩ : ByteArray).data.toList ++ s.data.toList) = 48 :: 58 :: s.data.toList from rfl, q0, hp, hO, hE, l0] at CS
        have PV := Lib.hid (fun w => parse_any va w)
        have MV := Lib.hid (fun w => meets_any kind 2 2 va s w)
        rw [lv] at PV MV
        rw [hp] at MV
        clear q1 q0 l1 l0
        by_cases zr : ra.size = 0
        · have HX : (va.toList == s.toList) = true := beq_iff_eq.2 (by rw [ByteArray.toList_eq, ByteArray.toList_eq, hX, lv, if_pos (by rw [← lr]; exact list_nil zr), List.append_nil])
          obtain rfl := empty_of zr
          obtain ⟨qe, qv, qr, hQ⟩ := evr_agg (parse p.v)
          rw [hQ] at PV
          have HWH := Lib.hid (fun h1 h2 h3 => same_meets hk.1 lv hvn pe hQ h1 h2 h3)
          generalize meetB kind 2 2 (parse p.v) (some p) = mb at *
          generalize meetE kind 2 2 (parse p.v) (some p) = me at *
          generalize errV (parse p.v) = ev at *
          clear J S hea hva hra hA hp ze zr le lv lr hvn pe hX hk hE hO hQ
          have i50 : ¬ (50 : Int) < (s.size : Int) := by omega
          rcases ck with rfl | rfl
          all_goals
            go_enter Tryd.func8, Tryd.ntmps8
            go_wp2_with fail
            refine (awake_any _).mono ?_
            rintro e w1 ⟨rfl, hb1⟩
            have HB1 := Lib.hid hb1
            have hz1 := hb1.size
            clear hb1
            go_wp2_with fail
            refine (PA.out _).mono ?_
            rintro e w2 ⟨rfl, hb2⟩
            have HB2 : Hid (Below W.heap.size W w2) := HB1.out.trans (hb2.mono hz1)
            have hz2 := HB2.out.size
            clear hb2
            go_wp2_with fail
            refine (CL.out _).mono ?_
            rintro e w3 ⟨rfl, hb3⟩
            have K1 := Lib.hid ((Blk.new w2 24 #[Value.string ⟨#[]⟩, .string va, .string ⟨#[]⟩]).below hb3 (by simp))
            have HB3 : Hid (Below W.heap.size W w3) := (HB2.out.alloc hz2 _).trans (hb3.mono (by simp; omega))
            have hz3 := HB3.out.size
            clear hb3
            go_wp2_with fail
            refine (CS.out _).mono ?_
            rintro e w4 ⟨rfl, hb4⟩
            have K1 := Lib.hid (K1.out.below hb4 K1.out.lt)
            have HB4 : Hid (Below W.heap.size W w4) := HB3.out.trans (hb4.mono hz3)
            have hz4 := HB4.out.size
            have c1 : w4.cell? ⟨w2.heap.size, 1, none⟩ = some (.string va) := K1.out.cell 1
            clear hb4
            go_wp2_with fail
            refine (PV.out _).mono ?_
            rintro e w5 ⟨rfl, hb5⟩
            have K1 := Lib.hid (K1.out.below hb5 K1.out.lt)
            have HB5 : Hid (Below W.heap.size W w5) := HB4.out.trans (hb5.mono hz4)
            have hz5 := HB5.out.size
            have c1 : w5.cell? ⟨w2.heap.size, 1, none⟩ = some (.string va) := K1.out.cell 1
            have hl5 : w2.heap.size < w5.heap.size := K1.out.lt
            clear hb5
            go_wp2_with fail
            refine (MV.out _).mono ?_
            rintro e w6 ⟨rfl, hb6⟩
            have K2 := Lib.hid ((Blk.new w5 24 #[Value.string qe, .string qv, .string qr]).below hb6 (by simp))
            have K1 := Lib.hid ((K1.out.alloc (.cells #[Value.string qe, .string qv, .string qr] 24)).below hb6 (by simp; omega))
            have HB6 : Hid (Below W.heap.size W w6) := (HB5.out.alloc hz5 _).trans (hb6.mono (by simp; omega))
            have c1 : w6.cell? ⟨w2.heap.size, 1, none⟩ = some (.string va) := K1.out.cell 1
            have e0 : w6.cell? ⟨w5.heap.size, 0, none⟩ = some (.string qe) := K2.out.cell 0
            have e1 : w6.cell? ⟨w5.heap.size, 1, none⟩ = some (.string qv) := K2.out.cell 1
            have e2 : w6.cell? ⟨w5.heap.size, 2, none⟩ = some (.string qr) := K2.out.cell 2
            clear hb6
            go_wp2_with fail
            all_goals
              go_ret
              refine ⟨?_, HB6.out⟩
              first
              | rfl
              | (obtain ⟨rfl, rfl⟩ := HWH.out (by assumption) (by assumption) (by assumption); first | rfl | (exfalso; simp_all; done))
        · have ge := toList_cons (s := ra) (by omega)
          have ge2 : ra.toList ≠ [] := by intro h; rw [h] at ge; cases ge
          have hrn : p.r ≠ [] := by rw [← lr]; intro e; exact zr (by rw [← size_len, e]; rfl)
          have HX : ((va ++ ⟨#[45]⟩ ++ ra).toList == s.toList) = true := beq_iff_eq.2 (by rw [ByteArray.toList_eq, ByteArray.toList_eq, hX, bl_app, bl_app, lv, lr, if_neg hrn]; simp)
          obtain ⟨qe, qv, qr, hQ⟩ := evr_agg (parse p.v)
          rw [hQ] at PV
          have HWH := Lib.hid (fun h1 h2 h3 => same_meets hk.1 lv hvn pe hQ h1 h2 h3)
          generalize meetB kind 2 2 (parse p.v) (some p) = mb at *
          generalize meetE kind 2 2 (parse p.v) (some p) = me at *
          generalize errV (parse p.v) = ev at *
          clear J S hea hva hra hA hp ze zr le lv lr hvn pe hX hk hE hO hrn hQ
          have i50 : ¬ (50 : Int) < (s.size : Int) := by omega
          rcases ck with rfl | rfl
          all_goals
            go_enter Tryd.func8, Tryd.ntmps8
            go_wp2_with fail
            refine (awake_any _).mono ?_
            rintro e w1 ⟨rfl, hb1⟩
            have HB1 := Lib.hid hb1
            have hz1 := hb1.size
            clear hb1
            go_wp2_with fail
            refine (PA.out _).mono ?_
            rintro e w2 ⟨rfl, hb2⟩
            have HB2 : Hid (Below W.heap.size W w2) := HB1.out.trans (hb2.mono hz1)
            have hz2 := HB2.out.size
            clear hb2
            go_wp2_with fail
            refine (CL.out _).mono ?_
            rintro e w3 ⟨rfl, hb3⟩
            have K1 := Lib.hid ((Blk.new w2 24 #[Value.string ⟨#[]⟩, .string va, .string ra]).below hb3 (by simp))
            have HB3 : Hid (Below W.heap.size W w3) := (HB2.out.alloc hz2 _).trans (hb3.mono (by simp; omega))
            have hz3 := HB3.out.size
            clear hb3
            go_wp2_with fail
            refine (CS.out _).mono ?_
            rintro e w4 ⟨rfl, hb4⟩
            have K1 := Lib.hid (K1.out.below hb4 K1.out.lt)
            have HB4 : Hid (Below W.heap.size W w4) := HB3.out.trans (hb4.mono hz3)
            have hz4 := HB4.out.size
            have c1 : w4.cell? ⟨w2.heap.size, 1, none⟩ = some (.string va) := K1.out.cell 1
            clear hb4
            go_wp2_with fail
            refine (PV.out _).mono ?_
            rintro e w5 ⟨rfl, hb5⟩
            have K1 := Lib.hid (K1.out.below hb5 K1.out.lt)
            have HB5 : Hid (Below W.heap.size W w5) := HB4.out.trans (hb5.mono hz4)
            have hz5 := HB5.out.size
            have c1 : w5.cell? ⟨w2.heap.size, 1, none⟩ = some (.string va) := K1.out.cell 1
            have hl5 : w2.heap.size < w5.heap.size := K1.out.lt
            clear hb5
            go_wp2_with fail
            refine (MV.out _).mono ?_
            rintro e w6 ⟨rfl, hb6⟩
            have K2 := Lib.hid ((Blk.new w5 24 #[Value.string qe, .string qv, .string qr]).below hb6 (by simp))
            have K1 := Lib.hid ((K1.out.alloc (.cells #[Value.string qe, .string qv, .string qr] 24)).below hb6 (by simp; omega))
            have HB6 : Hid (Below W.heap.size W w6) := (HB5.out.alloc hz5 _).trans (hb6.mono (by simp; omega))
            have c1 : w6.cell? ⟨w2.heap.size, 1, none⟩ = some (.string va) := K1.out.cell 1
            have e0 : w6.cell? ⟨w5.heap.size, 0, none⟩ = some (.string qe) := K2.out.cell 0
            have e1 : w6.cell? ⟨w5.heap.size, 1, none⟩ = some (.string qv) := K2.out.cell 1
            have e2 : w6.cell? ⟨w5.heap.size, 2, none⟩ = some (.string qr) := K2.out.cell 2
            clear hb6
            go_wp2_with fail
            all_goals
              go_ret
              refine ⟨?_, HB6.out⟩
              first
              | rfl
              | (obtain ⟨rfl, rfl⟩ := HWH.out (by assumption) (by assumption) (by assumption); first | rfl | (exfalso; simp_all; done))
      · have hkb : kind = 1 ∨ kind = 2 → ¬ s.size ≤ 50 := fun h1 h2 => hk ⟨by unfold kindB; exact decide_eq_true h1, h2⟩
        by_cases zr : ra.size = 0
        · have HX : (va.toList == s.toList) = true := beq_iff_eq.2 (by rw [ByteArray.toList_eq, ByteArray.toList_eq, hX, lv, if_pos (by rw [← lr]; exact list_nil zr), List.append_nil])
          obtain rfl := empty_of zr
          have HKB := Lib.hid hkb
          clear J S hea hva hra hA hp ze zr le lv lr hvn pe hX hk hkb
          by_cases k1 : kind = 1 ∨ kind = 2
          · have h50 : (50 : Int) < (s.size : Int) := by have := HKB.out k1; omega
            rcases k1 with rfl | rfl
            all_goals
              go_enter Tryd.func8, Tryd.ntmps8
              go_wp2_with fail
              refine (awake_any _).mono ?_
              rintro e w1 ⟨rfl, hb1⟩
              have HB1 := Lib.hid hb1
              have hz1 := hb1.size
              clear hb1
              go_wp2_with fail
              refine (PA.out _).mono ?_
              rintro e w2 ⟨rfl, hb2⟩
              have HB2 : Hid (Below W.heap.size W w2) := HB1.out.trans (hb2.mono hz1)
              have hz2 := HB2.out.size
              clear hb2
              go_wp2_with fail
              go_ret
              exact ⟨rfl, HB2.out.alloc hz2 _⟩
          · have t1 : (kind == 1) = false := by simp; omega
            have t2 : (kind == 2) = false := by simp; omega
            have t3 : (kind != 1) = true := by simp; omega
            have t4 : (kind != 2) = true := by simp; omega
            clear k1
            go_enter Tryd.func8, Tryd.ntmps8
            go_wp2_with fail
            refine (awake_any _).mono ?_
            rintro e w1 ⟨rfl, hb1⟩
            have HB1 := Lib.hid hb1
            have hz1 := hb1.size
            clear hb1
            go_wp2_with fail
            refine (PA.out _).mono ?_
            rintro e w2 ⟨rfl, hb2⟩
            have HB2 : Hid (Below W.heap.size W w2) := HB1.out.trans (hb2.mono hz1)
            have hz2 := HB2.out.size
            clear hb2
            go_wp2_with fail
            go_ret
            exact ⟨rfl, HB2.out.alloc hz2 _⟩
        · have ge := toList_cons (s := ra) (by omega)
          have ge2 : ra.toList ≠ [] := by intro h; rw [h] at ge; cases ge
          have hrn : p.r ≠ [] := by rw [← lr]; intro e; exact zr (by rw [← size_len, e]; rfl)
          have HX : ((va ++ ⟨#[45]⟩ ++ ra).toList == s.toList) = true := beq_iff_eq.2 (by rw [ByteArray.toList_eq, ByteArray.toList_eq, hX, bl_app, bl_app, lv, lr, if_neg hrn]; simp)
          have HKB := Lib.hid hkb
          clear J S hea hva hra hA hp ze zr le lv lr hvn pe hX hk hkb hrn
          by_cases k1 : kind = 1 ∨ kind = 2
          · have h50 : (50 : Int) < (s.size : Int) := by have := HKB.out k1; omega
            rcases k1 with rfl | rfl
            all_goals
              go_enter Tryd.func8, Tryd.ntmps8
              go_wp2_with fail
              refine (awake_any _).mono ?_
              rintro e w1 ⟨rfl, hb1⟩
              have HB1 := Lib.hid hb1
              have hz1 := hb1.size
              clear hb1
              go_wp2_with fail
              refine (PA.out _).mono ?_
              rintro e w2 ⟨rfl, hb2⟩
              have HB2 : Hid (Below W.heap.size W w2) := HB1.out.trans (hb2.mono hz1)
              have hz2 := HB2.out.size
              clear hb2
              go_wp2_with fail
              go_ret
              exact ⟨rfl, HB2.out.alloc hz2 _⟩
          · have t1 : (kind == 1) = false := by simp; omega
            have t2 : (kind == 2) = false := by simp; omega
            have t3 : (kind != 1) = true := by simp; omega
            have t4 : (kind != 2) = true := by simp; omega
            clear k1
            go_enter Tryd.func8, Tryd.ntmps8
            go_wp2_with fail
            refine (awake_any _).mono ?_
            rintro e w1 ⟨rfl, hb1⟩
            have HB1 := Lib.hid hb1
            have hz1 := hb1.size
            clear hb1
            go_wp2_with fail
            refine (PA.out _).mono ?_
            rintro e w2 ⟨rfl, hb2⟩
            have HB2 : Hid (Below W.heap.size W w2) := HB1.out.trans (hb2.mono hz1)
            have hz2 := HB2.out.size
            clear hb2
            go_wp2_with fail
            go_ret
            exact ⟨rfl, HB2.out.alloc hz2 _⟩
    · have he := toList_cons (s := ea) (by omega)
      have he2 : ea.toList ≠ [] := by intro h; rw [h] at he; cases he
      have pe : p.e ≠ [] := by rw [← le]; intro e; exact ze (by rw [← size_len, e]; rfl)
      have hX : s.data.toList = p.e ++ 58 :: p.v ++ (if p.r = [] then [] else 45 :: p.r) := by
        rw [join_is hp]; unfold joinL tailP; rw [if_neg pe]; simp
      by_cases zr : ra.size = 0
      · have HX : ((ea ++ ⟨#[58]⟩ ++ va).toList == s.toList) = true := beq_iff_eq.2 (by rw [ByteArray.toList_eq, ByteArray.toList_eq, hX, bl_app, bl_app, le, lv, if_pos (by rw [← lr]; exact list_nil zr)]; simp)
        obtain rfl := empty_of zr
        clear J S hea hva hra hA hp ze zr le lv lr hvn pe hX
        go_enter Tryd.func8, Tryd.ntmps8
        go_wp2_with fail
        refine (awake_any _).mono ?_
        rintro e w1 ⟨rfl, hb1⟩
        have HB1 := Lib.hid hb1
        have hz1 := hb1.size
        clear hb1
        go_wp2_with fail
        refine (PA.out _).mono ?_
        rintro e w2 ⟨rfl, hb2⟩
        have HB2 : Hid (Below W.heap.size W w2) := HB1.out.trans (hb2.mono hz1)
        have hz2 := HB2.out.size
        clear hb2
        go_wp2_with fail
        all_goals
          go_ret
          exact ⟨rfl, HB2.out.alloc hz2 _⟩
      · have ge := toList_cons (s := ra) (by omega)
        have ge2 : ra.toList ≠ [] := by intro h; rw [h] at ge; cases ge
        have hrn : p.r ≠ [] := by rw [← lr]; intro e; exact zr (by rw [← size_len, e]; rfl)
        have HX : ((ea ++ ⟨#[58]⟩ ++ va ++ ⟨#[45]⟩ ++ ra).toList == s.toList) = true := beq_iff_eq.2 (by rw [ByteArray.toList_eq, ByteArray.toList_eq, hX, bl_app, bl_app, bl_app, bl_app, le, lv, lr, if_neg hrn]; simp)
        clear J S hea hva hra hA hp ze zr le lv lr hvn pe hX hrn
        go_enter Tryd.func8, Tryd.ntmps8
        go_wp2_with fail
        refine (awake_any _).mono ?_
        rintro e w1 ⟨rfl, hb1⟩
        have HB1 := Lib.hid hb1
        have hz1 := hb1.size
        clear hb1
        go_wp2_with fail
        refine (PA.out _).mono ?_
        rintro e w2 ⟨rfl, hb2⟩
        have HB2 : Hid (Below W.heap.size W w2) := HB1.out.trans (hb2.mono hz1)
        have hz2 := HB2.out.size
        clear hb2
        go_wp2_with fail
        all_goals
          go_ret
          exact ⟨rfl, HB2.out.alloc hz2 _⟩
end Go.Proofs.YtbfpljlgjpmmmaaDoor
