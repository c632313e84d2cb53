/- Parts of the proof. -/
import Derived.Test.YtdhgiammfpjniaaGreatDoorZrau
import Derived.Test.YtdhgiammfpjniaaGreatDoorZram
namespace Go.Proofs.YtdhgiammfpjniaaGreatDoor.Ev
set_option linter.unusedSimpArgs false
set_option linter.unusedVariables false
open Go.RowKit
theorem ajQx {xs : List Dep} {k : Nat} {a : Dep} (K : Int) (h : xs[k]? = some a) : (xs.take (k + 1)).all (okA K) = ((xs.take k).all (okA K) && okA K a) := by
 rw [List.take_add_one, h, List.all_append]
 simp
theorem arQ3 {xs : List Dep} {k : Nat} {a : Dep} {K : Int} (h : xs[k]? = some a) (hf : okA K a = false) : xs.all (okA K) = false := by
 cases hx : xs.all (okA K) with
 | false => rfl
 | true =>
   have := List.all_eq_true.1 hx a (List.mem_of_getElem? h)
   rw [hf] at this
   cases this
set_option maxHeartbeats 8000000 in
set_option maxRecDepth 1000000 in
theorem akQl (K : Int) (n : ByteArray) (o : Int) (ev : ByteArray) (xs : List Dep) (hk : K ≠ 1) (ih : ∀ a ∈ xs, alQw a) : alQw (.mk K n o ev xs) := by
 intro s S w hL hsm
 obtain ⟨A, c, rfl, hc1, hc2, hA⟩ := hL.args_
 obtain ⟨hz1, hz2, hz3⟩ := agQ3 hsm
 simp only [Dep.name, Dep.evr, Dep.args] at hz1 hz2 hz3 hc1 hA ⊢
 have hlb : xs.length ≤ 9223372036854775807 := by unfold maxLen at hc2; omega
 obtain ⟨x, hx⟩ : ∃ x, Hid (x = form (.mk K n o ev xs)) := ⟨_, rfl⟩
 rw [← hx.out]
 have HXN : Hid ((form (.mk K n o ev xs) = true → False) → x = false) := fun h => by
  show x = false
  rw [hx.out]
  cases hf : form (.mk K n o ev xs) with
  | false => rfl
  | true => exact (h hf).elim
 have HXA : Hid (n.data.toList = [] → o = 0 → ev.data.toList = [] → 2 ≤ K → K ≤ 6 → 2 ≤ xs.length → (K = 4 → xs.length ≤ 3) → (K = 6 → xs.length ≤ 2) → x = xs.all (okA K)) := fun a1 a2 a3 a4 a5 a6 a7 a8 => by
  show x = _
  rw [hx.out, abQi a1, a2, abQi a3]
  exact apQp a4 a5 a6 a7 a8
 have hFC : form (.mk K n o ev xs) = true → _ := apQr hk
 obtain ⟨w1, hw1⟩ : ∃ w1, w1 = w.alloc (.cells #[.int .i64 K, .string n, .int .i64 o, .string ev, .slice A xs.length c] 39) := ⟨_, rfl⟩
 have HB : Hid (Below w.heap.size w w1) := by rw [hw1]; exact (Below.refl _ _).alloc (Nat.le_refl _) _
 have K0 : Blk w1 w.heap.size 39 #[.int .i64 K, .string n, .int .i64 o, .string ev, .slice A xs.length c] := by rw [hw1]; exact Blk.new _ _ _
 have hz : w1.heap.size = w.heap.size + 1 := by rw [hw1]; simp
 have hA1 : ArgsAt w1 S xs A := hA.stay (fun _ h => h) (StayS.below' HB.out)
 have HF : Hid (∀ wx, Below w1.heap.size w1 wx → Blk wx w.heap.size 39 #[.int .i64 K, .string n, .int .i64 o, .string ev, .slice A xs.length c] ∧ ArgsAt wx S xs A ∧ Below w.heap.size w wx) := fun wx hb => ⟨K0.below hb (by omega), hA1.stay (fun _ h => h) (StayS.below' hb), HB.out.trans (hb.mono (by omega))⟩
 have HIH : Hid (∀ a ∈ xs, alQw a ∧ small a) := fun a ha => ⟨ih a ha, hz3 a ha⟩
 obtain ⟨R, HR⟩ : ∃ R : World → Prop, Hid (∀ wx, R wx ↔ Below w1.heap.size w1 wx) := ⟨fun wx => Below w1.heap.size w1 wx, fun _ => Iff.rfl⟩
 have HR0 : Hid (R w1) := (HR.out _).2 (Below.refl _ _)
 have hk1 : (K == 1) = false := beq_eq_false_iff_ne.2 hk
 have hk1' : ¬ K = 1 := hk
 have HFC := hQQ hFC
 unfold rowD
 simp only [Dep.kind, Dep.name, Dep.op, Dep.evr, Dep.args]
 clear hL hsm hA hz1 hz2 hz3 hx hFC K0 hA1 ih hz hk hc2 hc1
 subst hw1
 by_cases h2 : K < 2
 ·have HV : Hid (x = false) := HXN.out (fun h => by have := HFC.out h; omega)
  clear HXN HXA HF HIH HR0 HR HFC
  go_enter Tryz.func210, Tryz.ntmps210
  go_wp2_with fail
  go_ret
  exact ⟨by rw [HV.out]; rfl, HB.out⟩
 by_cases h6 : 6 < K
 ·have HV : Hid (x = false) := HXN.out (fun h => by have := HFC.out h; omega)
  clear HXN HXA HF HIH HR0 HR HFC
  go_enter Tryz.func210, Tryz.ntmps210
  go_wp2_with fail
  go_ret
  exact ⟨by rw [HV.out]; rfl, HB.out⟩
 by_cases hn : n.data.toList ≠ []
 ·have HV : Hid (x = false) := HXN.out (fun h => hn (HFC.out h).2.2.1)
  obtain ⟨b1, b2, b3⟩ := abQg (afQg hn)
  have b4 : (n.toList == []) = false := by rw [ByteArray.toList_eq]; exact beq_eq_false_iff_ne.2 hn
  clear hn b3
  clear HXN HXA HF HIH HR0 HR HFC
  go_enter Tryz.func210, Tryz.ntmps210
  go_wp2_with fail
  go_ret
  exact ⟨by rw [HV.out]; rfl, HB.out⟩
 have hn : n.data.toList = [] := Classical.not_not.1 hn
 have hn0 := abQi hn
 subst hn0
 by_cases ho : o ≠ 0
 ·have HV : Hid (x = false) := HXN.out (fun h => ho (HFC.out h).2.2.2.1)
  have t0 : (o != 0) = true := bne_iff_ne.2 ho
  clear ho
  clear HXN HXA HF HIH HR0 HR HFC
  go_enter Tryz.func210, Tryz.ntmps210
  go_wp2_with fail
  go_ret
  exact ⟨by rw [HV.out]; rfl, HB.out⟩
 have ho : o = 0 := Classical.not_not.1 ho
 subst ho
 by_cases he : ev.data.toList ≠ []
 ·have HV : Hid (x = false) := HXN.out (fun h => he (HFC.out h).2.2.2.2.1)
  obtain ⟨b1, b2, b3⟩ := abQg (afQg he)
  have b4 : (ev.toList == []) = false := by rw [ByteArray.toList_eq]; exact beq_eq_false_iff_ne.2 he
  clear he b3
  clear HXN HXA HF HIH HR0 HR HFC
  go_enter Tryz.func210, Tryz.ntmps210
  go_wp2_with fail
  go_ret
  exact ⟨by rw [HV.out]; rfl, HB.out⟩
 have he : ev.data.toList = [] := Classical.not_not.1 he
 have he0 := abQi he
 subst he0
 by_cases hl : xs.length < 2
 ·have HV : Hid (x = false) := HXN.out (fun h => by have := HFC.out h; omega)
  have t0 : (xs.length : Int) < 2 := by omega
  clear HXN HXA HF HIH HR0 HR HFC
  go_enter Tryz.func210, Tryz.ntmps210
  go_wp2_with fail
  go_ret
  exact ⟨by rw [HV.out]; rfl, HB.out⟩
 have hlI : ¬ (xs.length : Int) < 2 := by omega
 by_cases h4 : K = 4 ∧ 3 < xs.length
 ·have HV : Hid (x = false) := HXN.out (fun h => by have := (HFC.out h).2.2.2.2.2.2.1 h4.1; omega)
  obtain ⟨rfl, h4⟩ := h4
  have t0 : (3 : Int) < (xs.length : Int) := by omega
  clear HXN HXA HF HIH HR0 HR HFC
  go_enter Tryz.func210, Tryz.ntmps210
  go_wp2_with fail
  go_ret
  exact ⟨by rw [HV.out]; rfl, HB.out⟩
 by_cases h5 : K = 6 ∧ 2 < xs.length
 ·have HV : Hid (x = false) := HXN.out (fun h => by have := (HFC.out h).2.2.2.2.2.2.2 h5.1; omega)
  obtain ⟨rfl, h5⟩ := h5
  have t0 : (2 : Int) < (xs.length : Int) := by omega
  clear HXN HXA HF HIH HR0 HR HFC
  go_enter Tryz.func210, Tryz.ntmps210
  go_wp2_with fail
  go_ret
  exact ⟨by rw [HV.out]; rfl, HB.out⟩
 have HXX : Hid (x = xs.all (okA K)) := HXA.out hn rfl he (by omega) (by omega) (by omega) (fun h => by have : ¬ 3 < xs.length := fun h' => h4 ⟨h, h'⟩; omega) (fun h => by have : ¬ 2 < xs.length := fun h' => h5 ⟨h, h'⟩; omega)
 have hkc : K = 4 ∨ K = 6 ∨ ((K == 4) = false ∧ (K == 6) = false ∧ ¬ K = 4 ∧ ¬ K = 6) := by
  by_cases a : K = 4
  ·exact .inl a
  ·by_cases b : K = 6
   ·exact .inr (.inl b)
   ·exact .inr (.inr ⟨beq_eq_false_iff_ne.2 a, beq_eq_false_iff_ne.2 b, a, b⟩)
 have hk4 : K = 4 → ¬ (3 : Int) < (xs.length : Int) := fun h h' => h4 ⟨h, by omega⟩
 have hk6 : K = 6 → ¬ (2 : Int) < (xs.length : Int) := fun h h' => h5 ⟨h, by omega⟩
 clear h4 h5 HXN HXA HFC hn he
 rcases hkc with rfl | rfl | ⟨q1, q2, q3, q4⟩
 ·have t34 := hk4 rfl
  clear hk4 hk6
  go_enter Tryz.func210, Tryz.ntmps210
  go_wp2_with fail
  go_loopw [7] (fun v7 wx => ∃ (k : Nat), k ≤ xs.length ∧ v7 = .int .i64 (k : Int) ∧ Hid ((xs.take k).all (okA (4 : Int)) = true) ∧ Hid (R wx)) (fun v7 _ => xs.length - (intOf v7).toNat)
  case atStart => exact ⟨0, Nat.zero_le _, rfl, rfl, HR0⟩
  case round =>
   clear HR0
   obtain ⟨k, hkn, rfl, HAll, HRr⟩ := hrel
   obtain ⟨Kr, hAr, hBr⟩ := HF.out wr ((HR.out _).1 HRr.out)
   have c0 := Kr.cell 0
   have c4 := Kr.cell 4
   simp at c0 c4
   have HBr := hQQ hBr
   clear hBr
   by_cases hlt : k < xs.length
   ·obtain ⟨a, ha⟩ : ∃ a, xs[k]? = some a := ⟨_, List.getElem?_eq_getElem hlt⟩
    obtain ⟨b', o', t, hA', hSb, hC, hLa⟩ := hAr k a ha
    obtain ⟨At, ct, rfl, _, _⟩ := hLa.form_
    subst hA'
    obtain ⟨e0, e1, e2, e3, e4⟩ := hC
    have HNo : Hid (okA (4 : Int) a = false → x = false) := fun h => HXX.out.trans (arQ3 ha h)
    have HYes : Hid (okA (4 : Int) a = true → (xs.take (k + 1)).all (okA (4 : Int)) = true) := fun h => by rw [ajQx _ ha, HAll.out, h]; rfl
    have CI := hQQ ((HIH.out a (List.mem_of_getElem? ha)).1 _ S wr hLa (HIH.out a (List.mem_of_getElem? ha)).2)
    have HRr2 : Hid (∀ w', Below wr.heap.size wr w' → R w' ∧ Below w.heap.size w w') := fun w' hb => by
     have h1 := (HR.out _).1 HRr.out
     have h3 := h1.trans (hb.mono h1.size)
     exact ⟨(HR.out _).2 h3, (HF.out _ h3).2.2⟩
    have hsg : ((4 : Int) < 5 ∨ (a.kind = 1 ∨ a.kind = 5 ∨ a.kind = 6)) ∨ (5 ≤ (4 : Int) ∧ a.kind ≠ 1 ∧ a.kind ≠ 5 ∧ a.kind ≠ 6) := by omega
    clear Kr hAr hLa ha HRr HAll
    rcases hsg with hsg | ⟨p1, p2, p3, p4⟩
    ·have HFo : Hid (okA (4 : Int) a = form a) := by
      show _ = _
      unfold okA
      rcases hsg with h | h | h | h
      ·rw [decide_eq_true h]; simp
      ·have : single a = true := by unfold single; rw [decide_eq_true h]; rfl
       rw [this]; simp
      ·have : single a = true := by unfold single; rw [decide_eq_true h]; simp
       rw [this]; simp
      ·have : single a = true := by unfold single; rw [decide_eq_true h]; simp
       rw [this]; simp
     rw [HFo.out] at HNo HYes
     unfold rowD at CI
     have hsg' : ((4 : Int) < 5) ∨ (5 ≤ (4 : Int) ∧ a.kind = 1) ∨ (5 ≤ (4 : Int) ∧ a.kind = 5) ∨ (5 ≤ (4 : Int) ∧ a.kind = 6) := by omega
     clear hsg HFo
     generalize form a = fa at CI HNo HYes
     rcases hsg' with g | ⟨g, g'⟩ | ⟨g, g'⟩ | ⟨g, g'⟩
     all_goals try (exfalso; omega)
     ·have g2 : ¬ (5 : Int) ≤ (4 : Int) := by omega
      cases fa with
      | false =>
        have HV : Hid (x = false) := HNo.out rfl
        clear HNo HYes
        go_wp2_with fail
        refine CI.out.mono ?_
        rintro e w3 ⟨rfl, hb3⟩
        have HB3 := hQQ (HRr2.out w3 hb3).2
        clear hb3 CI HRr2
        go_wp2_with fail
        go_ret
        exact ⟨by rw [HV.out]; rfl, HB3.out⟩
      | true =>
        have HV := hQQ (HYes.out rfl)
        clear HNo HYes
        go_wp2_with fail
        refine CI.out.mono ?_
        rintro e w3 ⟨rfl, hb3⟩
        have HR3 := hQQ (HRr2.out w3 hb3).1
        clear hb3 CI HRr2
        go_wp2_with fail
        go_roundw
        case rel => exact ⟨k + 1, by omega, by go_num, HV, HR3⟩
        case measure => simp [intOf]; omega
    ·exfalso; omega
   ·have HV : Hid (x = true) := by
     show x = _
     have h := HAll.out
     rw [List.take_of_length_le (by omega)] at h
     exact HXX.out.trans h
    clear Kr hAr HAll
    go_wp2_with fail
    go_ret
    exact ⟨by rw [HV.out]; rfl, HBr.out⟩
 ·have t34 := hk6 rfl
  clear hk4 hk6
  go_enter Tryz.func210, Tryz.ntmps210
  go_wp2_with fail
  go_loopw [7] (fun v7 wx => ∃ (k : Nat), k ≤ xs.length ∧ v7 = .int .i64 (k : Int) ∧ Hid ((xs.take k).all (okA (6 : Int)) = true) ∧ Hid (R wx)) (fun v7 _ => xs.length - (intOf v7).toNat)
  case atStart => exact ⟨0, Nat.zero_le _, rfl, rfl, HR0⟩
  case round =>
   clear HR0
   obtain ⟨k, hkn, rfl, HAll, HRr⟩ := hrel
   obtain ⟨Kr, hAr, hBr⟩ := HF.out wr ((HR.out _).1 HRr.out)
   have c0 := Kr.cell 0
   have c4 := Kr.cell 4
   simp at c0 c4
   have HBr := hQQ hBr
   clear hBr
   by_cases hlt : k < xs.length
   ·obtain ⟨a, ha⟩ : ∃ a, xs[k]? = some a := ⟨_, List.getElem?_eq_getElem hlt⟩
    obtain ⟨b', o', t, hA', hSb, hC, hLa⟩ := hAr k a ha
    obtain ⟨At, ct, rfl, _, _⟩ := hLa.form_
    subst hA'
    obtain ⟨e0, e1, e2, e3, e4⟩ := hC
    have HNo : Hid (okA (6 : Int) a = false → x = false) := fun h => HXX.out.trans (arQ3 ha h)
    have HYes : Hid (okA (6 : Int) a = true → (xs.take (k + 1)).all (okA (6 : Int)) = true) := fun h => by rw [ajQx _ ha, HAll.out, h]; rfl
    have CI := hQQ ((HIH.out a (List.mem_of_getElem? ha)).1 _ S wr hLa (HIH.out a (List.mem_of_getElem? ha)).2)
    have HRr2 : Hid (∀ w', Below wr.heap.size wr w' → R w' ∧ Below w.heap.size w w') := fun w' hb => by
     have h1 := (HR.out _).1 HRr.out
     have h3 := h1.trans (hb.mono h1.size)
     exact ⟨(HR.out _).2 h3, (HF.out _ h3).2.2⟩
    have hsg : ((6 : Int) < 5 ∨ (a.kind = 1 ∨ a.kind = 5 ∨ a.kind = 6)) ∨ (5 ≤ (6 : Int) ∧ a.kind ≠ 1 ∧ a.kind ≠ 5 ∧ a.kind ≠ 6) := by omega
    clear Kr hAr hLa ha HRr HAll
    rcases hsg with hsg | ⟨p1, p2, p3, p4⟩
    ·have HFo : Hid (okA (6 : Int) a = form a) := by
      show _ = _
      unfold okA
      rcases hsg with h | h | h | h
      ·rw [decide_eq_true h]; simp
      ·have : single a = true := by unfold single; rw [decide_eq_true h]; rfl
       rw [this]; simp
      ·have : single a = true := by unfold single; rw [decide_eq_true h]; simp
       rw [this]; simp
      ·have : single a = true := by unfold single; rw [decide_eq_true h]; simp
       rw [this]; simp
     rw [HFo.out] at HNo HYes
     unfold rowD at CI
     have hsg' : ((6 : Int) < 5) ∨ (5 ≤ (6 : Int) ∧ a.kind = 1) ∨ (5 ≤ (6 : Int) ∧ a.kind = 5) ∨ (5 ≤ (6 : Int) ∧ a.kind = 6) := by omega
     clear hsg HFo
     generalize form a = fa at CI HNo HYes
     rcases hsg' with g | ⟨g, g'⟩ | ⟨g, g'⟩ | ⟨g, g'⟩
     all_goals try (exfalso; omega)
     all_goals
      rw [g'] at CI e0
      cases fa with
      | false =>
        have HV : Hid (x = false) := HNo.out rfl
        clear HNo HYes
        go_wp2_with fail
        refine CI.out.mono ?_
        rintro e w3 ⟨rfl, hb3⟩
        have HB3 := hQQ (HRr2.out w3 hb3).2
        clear hb3 CI HRr2
        go_wp2_with fail
        go_ret
        exact ⟨by rw [HV.out]; rfl, HB3.out⟩
      | true =>
        have HV := hQQ (HYes.out rfl)
        clear HNo HYes
        go_wp2_with fail
        refine CI.out.mono ?_
        rintro e w3 ⟨rfl, hb3⟩
        have HR3 := hQQ (HRr2.out w3 hb3).1
        clear hb3 CI HRr2
        go_wp2_with fail
        go_roundw
        case rel => exact ⟨k + 1, by omega, by go_num, HV, HR3⟩
        case measure => simp [intOf]; omega
    ·have HV : Hid (x = false) := HNo.out (by
      unfold okA single
      rw [decide_eq_false (show ¬ (6 : Int) < 5 by omega), decide_eq_false p2, decide_eq_false p3, decide_eq_false p4]
      rfl)
     have r2 : (a.kind != 1) = true := bne_iff_ne.2 p2
     have r3 : (a.kind != 5) = true := bne_iff_ne.2 p3
     have r4 : (a.kind != 6) = true := bne_iff_ne.2 p4
     clear HNo HYes CI HRr2 p2 p3 p4
     go_wp2_with fail
     go_ret
     exact ⟨by rw [HV.out]; rfl, HBr.out⟩
   ·have HV : Hid (x = true) := by
     show x = _
     have h := HAll.out
     rw [List.take_of_length_le (by omega)] at h
     exact HXX.out.trans h
    clear Kr hAr HAll
    go_wp2_with fail
    go_ret
    exact ⟨by rw [HV.out]; rfl, HBr.out⟩
 ·clear hk4 hk6
  go_enter Tryz.func210, Tryz.ntmps210
  go_wp2_with fail
  go_loopw [7] (fun v7 wx => ∃ (k : Nat), k ≤ xs.length ∧ v7 = .int .i64 (k : Int) ∧ Hid ((xs.take k).all (okA K) = true) ∧ Hid (R wx)) (fun v7 _ => xs.length - (intOf v7).toNat)
  case atStart => exact ⟨0, Nat.zero_le _, rfl, rfl, HR0⟩
  case round =>
   clear HR0
   obtain ⟨k, hkn, rfl, HAll, HRr⟩ := hrel
   obtain ⟨Kr, hAr, hBr⟩ := HF.out wr ((HR.out _).1 HRr.out)
   have c0 := Kr.cell 0
   have c4 := Kr.cell 4
   simp at c0 c4
   have HBr := hQQ hBr
   clear hBr
   by_cases hlt : k < xs.length
   ·obtain ⟨a, ha⟩ : ∃ a, xs[k]? = some a := ⟨_, List.getElem?_eq_getElem hlt⟩
    obtain ⟨b', o', t, hA', hSb, hC, hLa⟩ := hAr k a ha
    obtain ⟨At, ct, rfl, _, _⟩ := hLa.form_
    subst hA'
    obtain ⟨e0, e1, e2, e3, e4⟩ := hC
    have HNo : Hid (okA K a = false → x = false) := fun h => HXX.out.trans (arQ3 ha h)
    have HYes : Hid (okA K a = true → (xs.take (k + 1)).all (okA K) = true) := fun h => by rw [ajQx _ ha, HAll.out, h]; rfl
    have CI := hQQ ((HIH.out a (List.mem_of_getElem? ha)).1 _ S wr hLa (HIH.out a (List.mem_of_getElem? ha)).2)
    have HRr2 : Hid (∀ w', Below wr.heap.size wr w' → R w' ∧ Below w.heap.size w w') := fun w' hb => by
     have h1 := (HR.out _).1 HRr.out
     have h3 := h1.trans (hb.mono h1.size)
     exact ⟨(HR.out _).2 h3, (HF.out _ h3).2.2⟩
    have hsg : (K < 5 ∨ (a.kind = 1 ∨ a.kind = 5 ∨ a.kind = 6)) ∨ (5 ≤ K ∧ a.kind ≠ 1 ∧ a.kind ≠ 5 ∧ a.kind ≠ 6) := by omega
    clear Kr hAr hLa ha HRr HAll
    rcases hsg with hsg | ⟨p1, p2, p3, p4⟩
    ·have HFo : Hid (okA K a = form a) := by
      show _ = _
      unfold okA
      rcases hsg with h | h | h | h
      ·rw [decide_eq_true h]; simp
      ·have : single a = true := by unfold single; rw [decide_eq_true h]; rfl
       rw [this]; simp
      ·have : single a = true := by unfold single; rw [decide_eq_true h]; simp
       rw [this]; simp
      ·have : single a = true := by unfold single; rw [decide_eq_true h]; simp
       rw [this]; simp
     rw [HFo.out] at HNo HYes
     unfold rowD at CI
     have hsg' : (K < 5) ∨ (5 ≤ K ∧ a.kind = 1) ∨ (5 ≤ K ∧ a.kind = 5) ∨ (5 ≤ K ∧ a.kind = 6) := by omega
     clear hsg HFo
     generalize form a = fa at CI HNo HYes
     rcases hsg' with g | ⟨g, g'⟩ | ⟨g, g'⟩ | ⟨g, g'⟩
     ·have g2 : ¬ (5 : Int) ≤ K := by omega
      cases fa with
      | false =>
        have HV : Hid (x = false) := HNo.out rfl
        clear HNo HYes
        go_wp2_with fail
        refine CI.out.mono ?_
        rintro e w3 ⟨rfl, hb3⟩
        have HB3 := hQQ (HRr2.out w3 hb3).2
        clear hb3 CI HRr2
        go_wp2_with fail
        go_ret
        exact ⟨by rw [HV.out]; rfl, HB3.out⟩
      | true =>
        have HV := hQQ (HYes.out rfl)
        clear HNo HYes
        go_wp2_with fail
        refine CI.out.mono ?_
        rintro e w3 ⟨rfl, hb3⟩
        have HR3 := hQQ (HRr2.out w3 hb3).1
        clear hb3 CI HRr2
        go_wp2_with fail
        go_roundw
        case rel => exact ⟨k + 1, by omega, by go_num, HV, HR3⟩
        case measure => simp [intOf]; omega
     all_goals
      rw [g'] at CI e0
      cases fa with
      | false =>
        have HV : Hid (x = false) := HNo.out rfl
        clear HNo HYes
        go_wp2_with fail
        refine CI.out.mono ?_
        rintro e w3 ⟨rfl, hb3⟩
        have HB3 := hQQ (HRr2.out w3 hb3).2
        clear hb3 CI HRr2
        go_wp2_with fail
        go_ret
        exact ⟨by rw [HV.out]; rfl, HB3.out⟩
      | true =>
        have HV := hQQ (HYes.out rfl)
        clear HNo HYes
        go_wp2_with fail
        refine CI.out.mono ?_
        rintro e w3 ⟨rfl, hb3⟩
        have HR3 := hQQ (HRr2.out w3 hb3).1
        clear hb3 CI HRr2
        go_wp2_with fail
        go_roundw
        case rel => exact ⟨k + 1, by omega, by go_num, HV, HR3⟩
        case measure => simp [intOf]; omega
    ·have HV : Hid (x = false) := HNo.out (by
      unfold okA single
      rw [decide_eq_false (show ¬ K < 5 by omega), decide_eq_false p2, decide_eq_false p3, decide_eq_false p4]
      rfl)
     have r2 : (a.kind != 1) = true := bne_iff_ne.2 p2
     have r3 : (a.kind != 5) = true := bne_iff_ne.2 p3
     have r4 : (a.kind != 6) = true := bne_iff_ne.2 p4
     clear HNo HYes CI HRr2 p2 p3 p4
     go_wp2_with fail
     go_ret
     exact ⟨by rw [HV.out]; rfl, HBr.out⟩
   ·have HV : Hid (x = true) := by
     show x = _
     have h := HAll.out
     rw [List.take_of_length_le (by omega)] at h
     exact HXX.out.trans h
    clear Kr hAr HAll
    go_wp2_with fail
    go_ret
    exact ⟨by rw [HV.out]; rfl, HBr.out⟩
end Go.Proofs.YtdhgiammfpjniaaGreatDoor.Ev
namespace Go.Proofs.YtdhgiammfpjniaaGreatDoor.Ev
set_option linter.unusedSimpArgs false
set_option linter.unusedVariables false
open Go.RowKit
theorem amQo (d : Dep) : alQw d := by
 induction d using Dep.ind with
 | h k n o e xs ih =>
   by_cases hk : k = 1
   ·subst hk; exact akQm n o e xs
   ·exact akQl k n o e xs hk ih
set_option maxHeartbeats 1000000 in
set_option maxRecDepth 100000 in
theorem aeQ1 (d : Dep) (s : Value) (S : Nat → Prop) (w : World) (hL : Lay w S d s) (hsm : small d) (hN : nodes d ≤ 4194304) : Calls Tryz.prog 175 #[.agg (rowD d s)] w fun e w' => e = .returned (.int .i64 (checkN d)) ∧ Below w.heap.size w w' := by
 obtain ⟨A, c, rfl, _, _⟩ := hL.form_
 obtain ⟨w1, hw1⟩ : ∃ w1, w1 = w.alloc (.cells (rowD d (.slice A d.args.length c)) 39) := ⟨_, rfl⟩
 have hB1 : Below w.heap.size w w1 := by rw [hw1]; exact (Below.refl _ _).alloc (Nat.le_refl _) _
 have K : Blk w1 w.heap.size 39 (rowD d (.slice A d.args.length c)) := by rw [hw1]; exact Blk.new _ _ _
 have hz : w1.heap.size = w.heap.size + 1 := by rw [hw1]; simp
 have hL1 := hL.stay (fun _ h => h) (StayS.below' hB1)
 have CF := hQQ (amQo d _ S w1 hL1 hsm)
 have CP : Hid (∀ w2, Below w1.heap.size w1 w2 → Blk w2 w.heap.size 39 (rowD d (.slice A d.args.length c)) ∧ Below w.heap.size w w2 ∧ Calls Tryz.prog 211 #[.agg (rowD d (.slice A d.args.length c))] w2 (fun e w' => e = .returned (.int .i64 (abQd d : Int)) ∧ Below w2.heap.size w2 w')) := fun w2 hb => ⟨K.below hb (by omega), hB1.trans (hb.mono (by omega)), akQk d _ S w2 (hL1.stay (fun _ h => h) (StayS.below' hb)) hN⟩
 obtain ⟨x, hx⟩ : ∃ x, Hid (x = form d) := ⟨_, rfl⟩
 rw [← hx.out] at CF
 obtain ⟨q, hq⟩ : ∃ q, Hid (q = checkN d) := ⟨_, rfl⟩
 rw [← hq.out]
 have HQ : Hid (q = if x = true then (if 16 < abQd d then 51 else 0) else 50) := by show _ = _; rw [hq.out, hx.out]; rfl
 have hlv : abQd d ≤ 4194304 := by have := adQ7 d; omega
 clear hL hsm hN hB1 K hz hL1 hx hq
 subst hw1
 unfold rowD at CF CP ⊢
 go_enter Tryz.func175, Tryz.ntmps175
 go_wp2_with fail
 refine CF.out.mono ?_
 rintro e w2 ⟨rfl, hb2⟩
 obtain ⟨K2, hB2, C2⟩ := CP.out w2 hb2
 have k0 := K2.cell 0
 have k1 := K2.cell 1
 have k2 := K2.cell 2
 have k3 := K2.cell 3
 have k4 := K2.cell 4
 simp at k0 k1 k2 k3 k4
 have HC2 := hQQ C2
 have HB2 := hQQ hB2
 clear K2 hB2 C2 hb2 CF CP
 cases x with
 | false =>
   have HV : Hid (q = 50) := HQ.out
   clear HQ HC2
   go_wp2_with fail
   go_ret
   exact ⟨by rw [HV.out]; rfl, HB2.out⟩
 | true =>
   have HQ2 : Hid (q = if 16 < abQd d then 51 else 0) := HQ.out
   clear HQ
   generalize abQd d = m at *
   go_wp2_with fail
   refine HC2.out.mono ?_
   rintro e w3 ⟨rfl, hb3⟩
   have HB3 : Hid (Below w.heap.size w w3) := HB2.out.trans (hb3.mono HB2.out.size)
   clear hb3 HC2 HB2
   by_cases hm : 16 < m
   ·have HV : Hid (q = 51) := HQ2.out.trans (if_pos hm)
    have t : (16 : Int) < (m : Int) := by omega
    clear HQ2
    go_wp2_with fail
    go_ret
    exact ⟨by rw [HV.out]; rfl, HB3.out⟩
   ·have HV : Hid (q = 0) := HQ2.out.trans (if_neg hm)
    have t : ¬ (16 : Int) < (m : Int) := by omega
    clear HQ2
    go_wp2_with fail
    go_ret
    exact ⟨by rw [HV.out]; rfl, HB3.out⟩
def afQ0 (c : UInt8) : Bool := decide (97 ≤ c.toNat ∧ c.toNat ≤ 122 ∨ 48 ≤ c.toNat ∧ c.toNat ≤ 57 ∨ c.toNat = 95)
def archR (s : ByteArray) : Bool := s.data.toList.all afQ0 && (decide (1 ≤ s.size) && decide (s.size ≤ 20))
def aeQ6 (c : UInt8) : Bool := decide (32 ≤ c.toNat ∧ c.toNat ≤ 126)
def aeQn (s : ByteArray) : Bool := s.data.toList.all aeQ6
theorem arQ2 {p : UInt8 → Bool} {l : List UInt8} {k : Nat} {c : UInt8} (hc : l[k]? = some c) (hp : p c = false) : l.all p = false := by
 cases hx : l.all p with
 | false => rfl
 | true =>
   have := List.all_eq_true.1 hx c (List.mem_of_getElem? hc)
   rw [hp] at this; cases this
set_option maxHeartbeats 2000000 in
set_option maxRecDepth 100000 in
theorem amQq (s : ByteArray) (hs : s.size ≤ maxLen) (w : World) :
 Calls Tryz.prog 114 #[.string s] w fun e w' => e = .returned (.bool (archR s)) ∧ w = w' := by
 unfold maxLen at hs
 obtain ⟨y, hy⟩ : ∃ y, y = archR s := ⟨_, rfl⟩
 rw [← hy]
 have HX := hQQ hy
 clear hy
 go_enter Tryz.func114, Tryz.ntmps114
 go_wp2_with fail
 go_loop [3] (fun i => ∃ k : Nat, k ≤ s.size ∧ i = .int .i64 (k : Int) ∧ Hid ((s.data.toList.take k).all afQ0 = true)) (fun i => s.size - (intOf i).toNat)
 case atStart => exact ⟨0, Nat.zero_le _, rfl, show (s.data.toList.take 0).all afQ0 = true from rfl⟩
 case round =>
  obtain ⟨k, hk, rfl, hall⟩ := hrel
  by_cases hlt : k < s.size
  ·have HB := hQQ (aaQw hlt)
   have HY : Hid ((97 ≤ s[k].toNat ∧ s[k].toNat ≤ 122 ∨ 48 ≤ s[k].toNat ∧ s[k].toNat ≤ 57 ∨ s[k].toNat = 95) → (s.data.toList.take (k + 1)).all afQ0 = true) := fun h => acQ6 hall.out HB.out (decide_eq_true h)
   have HNo : Hid (¬ (97 ≤ s[k].toNat ∧ s[k].toNat ≤ 122 ∨ 48 ≤ s[k].toNat ∧ s[k].toNat ≤ 57 ∨ s[k].toNat = 95) → y = false) := fun h => by
    show y = false
    rw [HX.out]; unfold archR
    rw [arQ2 HB.out (decide_eq_false h)]; rfl
   clear hall
   have h256 : s[k].toNat < 256 := s[k].toNat_lt
   have hcs : (s[k].toNat = 95 ∧ ((s[k].toNat : Int) != 95) = false) ∨ (s[k].toNat ≠ 95 ∧ ((s[k].toNat : Int) != 95) = true) := by
    by_cases h : s[k].toNat = 95
    ·exact .inl ⟨h, by rw [h]; rfl⟩
    ·exact .inr ⟨h, bne_iff_ne.2 (by omega)⟩
   rcases hcs with ⟨h95, t95⟩ | ⟨h95, t95⟩
   all_goals
    go_wp2_with fail
   all_goals
    first
    | (go_ret
       exact ⟨aaQj (by rw [HNo.out (by omega)]), rfl⟩)
    | (go_round
       case rel => exact ⟨k + 1, by omega, by go_num, HY.out (by omega)⟩
       case measure => simp [intOf]; omega)
  ·have HM : Hid (y = (decide (1 ≤ s.size) && decide (s.size ≤ 20))) := by
    show y = _
    have := hall.out
    rw [List.take_of_length_le (by simp; omega)] at this
    rw [HX.out]
    unfold archR
    rw [this]; rfl
   clear hall
   go_wp2_with fail
   all_goals
    go_ret
    refine ⟨aaQj ?_, rfl⟩
    rw [HM.out, Bool.eq_iff_iff]
    simp <;> omega
set_option maxHeartbeats 2000000 in
set_option maxRecDepth 100000 in
theorem akQg (s : ByteArray) (hs : s.size ≤ maxLen) (w : World) :
 Calls Tryz.prog 115 #[.string s] w fun e w' => e = .returned (.bool (aeQn s)) ∧ w = w' := by
 unfold maxLen at hs
 obtain ⟨y, hy⟩ : ∃ y, y = aeQn s := ⟨_, rfl⟩
 rw [← hy]
 have HX := hQQ hy
 clear hy
 go_enter Tryz.func115, Tryz.ntmps115
 go_wp2_with fail
 go_loop [3] (fun i => ∃ k : Nat, k ≤ s.size ∧ i = .int .i64 (k : Int) ∧ Hid ((s.data.toList.take k).all aeQ6 = true)) (fun i => s.size - (intOf i).toNat)
 case atStart => exact ⟨0, Nat.zero_le _, rfl, show (s.data.toList.take 0).all aeQ6 = true from rfl⟩
 case round =>
  obtain ⟨k, hk, rfl, hall⟩ := hrel
  by_cases hlt : k < s.size
  ·have HB := hQQ (aaQw hlt)
   have HY : Hid ((32 ≤ s[k].toNat ∧ s[k].toNat ≤ 126) → (s.data.toList.take (k + 1)).all aeQ6 = true) := fun h => acQ6 hall.out HB.out (decide_eq_true h)
   have HNo : Hid (¬ (32 ≤ s[k].toNat ∧ s[k].toNat ≤ 126) → y = false) := fun h => by
    show y = false
    rw [HX.out]; unfold aeQn
    rw [arQ2 HB.out (decide_eq_false h)]
   clear hall
   have h256 : s[k].toNat < 256 := s[k].toNat_lt
   go_wp2_with fail
   all_goals
    first
    | (go_ret
       exact ⟨aaQj (by rw [HNo.out (by omega)]), rfl⟩)
    | (go_round
       case rel => exact ⟨k + 1, by omega, by go_num, HY.out (by omega)⟩
       case measure => simp [intOf]; omega)
  ·have HM : Hid (y = true) := by
    show y = _
    have := hall.out
    rw [List.take_of_length_le (by simp; omega)] at this
    rw [HX.out]
    unfold aeQn
    rw [this]
   clear hall
   go_wp2_with fail
   go_ret
   exact ⟨aaQj (by rw [HM.out]), rfl⟩
theorem aqQ3 {s : ByteArray} (h : nameB s.data.toList = false) : acQm s = true := by unfold acQm; rw [h]; simp
theorem amQw {s : ByteArray} (hp : 0 < s.size) (h : nameB s.data.toList = true) : acQm s = !decide (s[0] = 47) := by
 unfold acQm
 rw [h, adQg hp]
 simp [Lib.hasPrefix, List.isPrefixOf]
 rw [Bool.eq_iff_iff, beq_iff_eq, decide_eq_true_eq]
 exact ⟨Eq.symm, Eq.symm⟩
theorem aqQ4 {s : ByteArray} (h : nameB s.data.toList = true) : 0 < s.size := by
 rcases Nat.eq_zero_or_pos s.size with h0 | h0
 ·rw [abQe h0, acQy (.inl rfl)] at h; cases h
 ·exact h0
set_option maxHeartbeats 4000000 in
set_option maxRecDepth 100000 in
theorem akQn (fl : List ByteArray) (A : Option Addr) (c : Nat) (T : Nat → Prop) (w : World) (hA : TextsAt w T fl A) (hl : fl.length ≤ c) (hc : c ≤ maxLen) (hsm : ∀ s ∈ fl, s.size ≤ maxLen) :
 Calls Tryz.prog 117 #[.slice A fl.length c] w fun e w' => e = .returned (.bool (!filesBad fl)) ∧ w = w' := by
 unfold maxLen at hc
 obtain ⟨y, hy⟩ : ∃ y, y = !filesBad fl := ⟨_, rfl⟩
 rw [← hy]
 have HX := hQQ hy
 have HA := hQQ hA
 have HS := hQQ hsm
 clear hy hA hsm
 have hlb : fl.length ≤ 9223372036854775807 := by omega
 by_cases h16 : 16 < fl.length
 ·have t16 : (16 : Int) < (fl.length : Int) := by omega
  have HV : Hid (y = false) := by show y = _; rw [HX.out]; simp [filesBad, h16]
  clear HX h16
  go_enter Tryz.func117, Tryz.ntmps117
  go_wp2_with fail
  go_ret
  exact ⟨aaQj (by rw [HV.out]), rfl⟩
 have t16 : ¬ (16 : Int) < (fl.length : Int) := by omega
 have HX2 : Hid (y = !fl.any acQm) := by show y = _; rw [HX.out]; simp [filesBad, h16]
 clear HX h16
 go_enter Tryz.func117, Tryz.ntmps117
 go_wp2_with fail
 go_loop [3] (fun i => ∃ k : Nat, k ≤ fl.length ∧ i = .int .i64 (k : Int) ∧ Hid (∀ a ∈ fl.take k, acQm a = false)) (fun i => fl.length - (intOf i).toNat)
 case atStart => exact ⟨0, Nat.zero_le _, rfl, show ∀ a ∈ fl.take 0, acQm a = false from fun a ha => by simp at ha⟩
 case round =>
  obtain ⟨k, hk, rfl, hall⟩ := hrel
  by_cases hlt : k < fl.length
  ·obtain ⟨s, hsk⟩ : ∃ s, fl[k]? = some s := ⟨_, List.getElem?_eq_getElem hlt⟩
   obtain ⟨b, o, hAe, _, hcell⟩ := HA.out k s hsk
   subst hAe
   have hm := List.mem_of_getElem? hsk
   have hsz := HS.out s hm
   have HY : Hid (acQm s = false → ∀ a ∈ fl.take (k + 1), acQm a = false) := fun h a ha => by
    rw [List.take_add_one, hsk] at ha
    rcases List.mem_append.1 ha with h1 | h1
    ·exact hall.out a h1
    ·have : a = s := by simpa using h1
     rw [this]; exact h
   have HNo : Hid (acQm s = true → y = false) := fun h => by
    show y = false
    rw [HX2.out, List.any_eq_true.2 ⟨s, hm, h⟩]; rfl
   have CN := hQQ (fun w => acQ4 s hsz w)
   cases hn : nameB s.data.toList with
   | false =>
     have HV : Hid (y = false) := HNo.out (aqQ3 hn)
     rw [hn] at CN
     clear hall hsk hm hsz HY HNo hn
     go_wp2_with fail
     refine (CN.out _).mono ?_
     rintro e w1 ⟨rfl, rfl⟩
     go_wp2_with fail
     go_ret
     exact ⟨aaQj (by rw [HV.out]), rfl⟩
   | true =>
     have hp := aqQ4 hn
     have hf := amQw hp hn
     rw [hn] at CN
     unfold maxLen at hsz
     by_cases h47 : s[0] = 47
     ·obtain ⟨t1, t2⟩ := abQu (n := 47) rfl h47
      have HV := hQQ (HY.out (by rw [hf]; simp [h47]))
      clear hall hsk hm HY HNo hn hf h47
      go_wp2_with fail
      refine (CN.out _).mono ?_
      rintro e w1 ⟨rfl, rfl⟩
      go_wp2_with fail
      go_round
      case rel => exact ⟨k + 1, by omega, by go_num, HV⟩
      case measure => simp [intOf]; omega
     ·obtain ⟨t1, t2⟩ := aaQ6 (n := 47) rfl h47
      have HV : Hid (y = false) := HNo.out (by rw [hf]; simp [h47])
      clear hall hsk hm HY HNo hn hf h47
      go_wp2_with fail
      refine (CN.out _).mono ?_
      rintro e w1 ⟨rfl, rfl⟩
      go_wp2_with fail
      go_ret
      exact ⟨aaQj (by rw [HV.out]), rfl⟩
  ·have HV : Hid (y = true) := by
    show y = _
    rw [HX2.out]
    have : fl.any acQm = false := by
     rw [List.any_eq_false]
     intro a ha
     have := hall.out a (by rw [List.take_of_length_le (by omega)]; exact ha)
     simp [this]
    rw [this]; rfl
   clear hall
   go_wp2_with fail
   go_ret
   exact ⟨aaQj (by rw [HV.out]), rfl⟩
def aiQo (ss : Nat → Value) (w : World) (e : Ending) (w' : World) : Prop :=
 ∃ b, e = .returned (.slice (some ⟨b, 0, none⟩) 7 7) ∧ Blk w' b 35 #[ss 0, ss 1, ss 2, ss 3, ss 4, ss 5, ss 6] ∧ Below w.heap.size w w'
set_option maxHeartbeats 2000000 in
set_option maxRecDepth 100000 in
theorem aiQ3 (p : Pkg) (ss : Nat → Value) (fs : Value) (hss : ∀ i, i < 7 → ∃ B n m, ss i = .slice B n m) (w : World) :
 Calls Tryz.prog 54 #[.agg (rowP p ss fs)] w (aiQo ss w) := by
 obtain ⟨B0, n0, m0, s0⟩ := hss 0 (by omega)
 obtain ⟨B1, n1, m1, s1⟩ := hss 1 (by omega)
 obtain ⟨B2, n2, m2, s2⟩ := hss 2 (by omega)
 obtain ⟨B3, n3, m3, s3⟩ := hss 3 (by omega)
 obtain ⟨B4, n4, m4, s4⟩ := hss 4 (by omega)
 obtain ⟨B5, n5, m5, s5⟩ := hss 5 (by omega)
 obtain ⟨B6, n6, m6, s6⟩ := hss 6 (by omega)
 unfold rowP aiQo
 rw [s0, s1, s2, s3, s4, s5, s6]
 clear hss s0 s1 s2 s3 s4 s5 s6
 go_enter Tryz.func54, Tryz.ntmps54
 go_wp2_with fail
 go_ret
 exact ⟨_, rfl, Blk.new' (by simp), ((Below.refl _ _).alloc (Nat.le_refl _) _).alloc (by simp) _⟩
end Go.Proofs.YtdhgiammfpjniaaGreatDoor.Ev
