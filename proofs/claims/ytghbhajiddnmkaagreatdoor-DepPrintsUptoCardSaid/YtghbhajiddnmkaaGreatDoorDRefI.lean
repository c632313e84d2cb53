/- The reference's forms of what has arguments; its check. -/
import Derived.Test.YtghbhajiddnmkaaGreatDoorDRefGH
namespace Go.Proofs.YtghbhajiddnmkaaGreatDoor
set_option linter.unusedSimpArgs false
set_option linter.unusedVariables false
open Go.RowKit

theorem all_take {xs : List Dep} {k : Nat} {a : Dep} (K : Int) (h : xs[k]? = some a) : (xs.take (k + 1)).all (okA K) = ((xs.take k).all (okA K) && okA K a) := by
  rw [List.take_add_one, h, List.all_append]
  simp
theorem all_no {xs : List Dep} {k : Nat} {a : Dep} {K : Int} (h : xs[k]? = some a) (hf : okA K a = false) : xs.all (okA K) = false := by
  cases hx : xs.all (okA K) with
  | false => rfl
  | true =>
    have := List.all_eq_true.1 hx a (List.mem_of_getElem? h)
    rw [hf] at this
    cases this
set_option maxHeartbeats 8000000 in
set_option maxRecDepth 1000000 in
theorem refForm_node (K : Int) (n : ByteArray) (o : Int) (ev : ByteArray) (xs : List Dep) (hk : K ≠ 1) (ih : ∀ a ∈ xs, FormOk a) : FormOk (.mk K n o ev xs) := by
  intro s S w hL hsm
  obtain ⟨A, c, rfl, hc1, hc2, hA⟩ := hL.args_
  obtain ⟨hz1, hz2, hz3⟩ := small_parts hsm
  simp only [Dep.name, Dep.evr, Dep.args] at hz1 hz2 hz3 hc1 hA ⊢
  have hlb : xs.length ≤ 9223372036854775807 := by unfold maxLen at hc2; omega
  obtain ⟨x, hx⟩ : ∃ x, Hid (x = form (.mk K n o ev xs)) := ⟨_, rfl⟩
  rw [← hx.out]
  have HXN : Hid ((form (.mk K n o ev xs) = true → False) → x = false) := fun h => by
    show x = false
    rw [hx.out]
    cases hf : form (.mk K n o ev xs) with
    | false => rfl
    | true => exact (h hf).elim
  have HXA : Hid (n.data.toList = [] → o = 0 → ev.data.toList = [] → 2 ≤ K → K ≤ 6 → 2 ≤ xs.length → (K = 4 → xs.length ≤ 3) → (K = 6 → xs.length ≤ 2) → x = xs.all (okA K)) := fun a1 a2 a3 a4 a5 a6 a7 a8 => by
    show x = _
    rw [hx.out, empty_back a1, a2, empty_back a3]
    exact form_nodeB a4 a5 a6 a7 a8
  have hFC : form (.mk K n o ev xs) = true → _ := form_conds hk
  obtain ⟨w1, hw1⟩ : ∃ w1, w1 = w.alloc (.cells #[.int .i64 K, .string n, .int .i64 o, .string ev, .slice A xs.length c] 24) := ⟨_, rfl⟩
  have HB : Hid (Below w.heap.size w w1) := by rw [hw1]; exact (Below.refl _ _).alloc (Nat.le_refl _) _
  have K0 : Blk w1 w.heap.size 24 #[.int .i64 K, .string n, .int .i64 o, .string ev, .slice A xs.length c] := by rw [hw1]; exact Blk.new _ _ _
  have hz : w1.heap.size = w.heap.size + 1 := by rw [hw1]; simp
  have hA1 : ArgsAt w1 S xs A := hA.stay (fun _ h => h) (StayS.below' HB.out)
  have HF : Hid (∀ wx, Below w1.heap.size w1 wx → Blk wx w.heap.size 24 #[.int .i64 K, .string n, .int .i64 o, .string ev, .slice A xs.length c] ∧ ArgsAt wx S xs A ∧ Below w.heap.size w wx) := fun wx hb => ⟨K0.below hb (by omega), hA1.stay (fun _ h => h) (StayS.below' hb), HB.out.trans (hb.mono (by omega))⟩
  have HIH : Hid (∀ a ∈ xs, FormOk a ∧ small a) := fun a ha => ⟨ih a ha, hz3 a ha⟩
  obtain ⟨R, HR⟩ : ∃ R : World → Prop, Hid (∀ wx, R wx ↔ Below w1.heap.size w1 wx) := ⟨fun wx => Below w1.heap.size w1 wx, fun _ => Iff.rfl⟩
  have HR0 : Hid (R w1) := (HR.out _).2 (Below.refl _ _)
  have hk1 : (K == 1) = false := beq_eq_false_iff_ne.2 hk
  have hk1' : ¬ K = 1 := hk
  have HFC := Lib.hid hFC
  unfold rowD
  simp only [Dep.kind, Dep.name, Dep.op, Dep.evr, Dep.args]
  clear hL hsm hA hz1 hz2 hz3 hx hFC K0 hA1 ih hz hk hc2 hc1
  subst hw1
  by_cases h2 : K < 2
  · have HV : Hid (x = false) := HXN.out (fun h => by have := HFC.out h; omega)
    clear HXN HXA HF HIH HR0 HR HFC
    go_enter Tryz.func27, Tryz.ntmps27
    go_wp2_with fail
    go_ret
    exact ⟨by rw [HV.out]; rfl, HB.out⟩
  by_cases h6 : 6 < K
  · have HV : Hid (x = false) := HXN.out (fun h => by have := HFC.out h; omega)
    clear HXN HXA HF HIH HR0 HR HFC
    go_enter Tryz.func27, Tryz.ntmps27
    go_wp2_with fail
    go_ret
    exact ⟨by rw [HV.out]; rfl, HB.out⟩
  by_cases hn : n.data.toList ≠ []
  · have HV : Hid (x = false) := HXN.out (fun h => hn (HFC.out h).2.2.1)
    obtain ⟨b1, b2, b3⟩ := blank_of (blank_no hn)
    have b4 : (n.toList == []) = false := by rw [ByteArray.toList_eq]; exact beq_eq_false_iff_ne.2 hn
    clear hn b3
    clear HXN HXA HF HIH HR0 HR HFC
    go_enter Tryz.func27, Tryz.ntmps27
    go_wp2_with fail
    go_ret
    exact ⟨by rw [HV.out]; rfl, HB.out⟩
  have hn : n.data.toList = [] := Classical.not_not.1 hn
  have hn0 := empty_back hn
  subst hn0
  by_cases ho : o ≠ 0
  · have HV : Hid (x = false) := HXN.out (fun h => ho (HFC.out h).2.2.2.1)
    have t0 : (o != 0) = true := bne_iff_ne.2 ho
    clear ho
    clear HXN HXA HF HIH HR0 HR HFC
    go_enter Tryz.func27, Tryz.ntmps27
    go_wp2_with fail
    go_ret
    exact ⟨by rw [HV.out]; rfl, HB.out⟩
  have ho : o = 0 := Classical.not_not.1 ho
  subst ho
  by_cases he : ev.data.toList ≠ []
  · have HV : Hid (x = false) := HXN.out (fun h => he (HFC.out h).2.2.2.2.1)
    obtain ⟨b1, b2, b3⟩ := blank_of (blank_no he)
    have b4 : (ev.toList == []) = false := by rw [ByteArray.toList_eq]; exact beq_eq_false_iff_ne.2 he
    clear he b3
    clear HXN HXA HF HIH HR0 HR HFC
    go_enter Tryz.func27, Tryz.ntmps27
    go_wp2_with fail
    go_ret
    exact ⟨by rw [HV.out]; rfl, HB.out⟩
  have he : ev.data.toList = [] := Classical.not_not.1 he
  have he0 := empty_back he
  subst he0
  by_cases hl : xs.length < 2
  · have HV : Hid (x = false) := HXN.out (fun h => by have := HFC.out h; omega)
    have t0 : (xs.length : Int) < 2 := by omega
    clear HXN HXA HF HIH HR0 HR HFC
    go_enter Tryz.func27, Tryz.ntmps27
    go_wp2_with fail
    go_ret
    exact ⟨by rw [HV.out]; rfl, HB.out⟩
  have hlI : ¬ (xs.length : Int) < 2 := by omega
  by_cases h4 : K = 4 ∧ 3 < xs.length
  · have HV : Hid (x = false) := HXN.out (fun h => by have := (HFC.out h).2.2.2.2.2.2.1 h4.1; omega)
    obtain ⟨rfl, h4⟩ := h4
    have t0 : (3 : Int) < (xs.length : Int) := by omega
    clear HXN HXA HF HIH HR0 HR HFC
    go_enter Tryz.func27, Tryz.ntmps27
    go_wp2_with fail
    go_ret
    exact ⟨by rw [HV.out]; rfl, HB.out⟩
  by_cases h5 : K = 6 ∧ 2 < xs.length
  · have HV : Hid (x = false) := HXN.out (fun h => by have := (HFC.out h).2.2.2.2.2.2.2 h5.1; omega)
    obtain ⟨rfl, h5⟩ := h5
    have t0 : (2 : Int) < (xs.length : Int) := by omega
    clear HXN HXA HF HIH HR0 HR HFC
    go_enter Tryz.func27, Tryz.ntmps27
    go_wp2_with fail
    go_ret
    exact ⟨by rw [HV.out]; rfl, HB.out⟩
  have HXX : Hid (x = xs.all (okA K)) := HXA.out hn rfl he (by omega) (by omega) (by omega) (fun h => by have : ¬ 3 < xs.length := fun h' => h4 ⟨h, h'⟩; omega) (fun h => by have : ¬ 2 < xs.length := fun h' => h5 ⟨h, h'⟩; omega)
  have hkc : K = 4 ∨ K = 6 ∨ ((K == 4) = false ∧ (K == 6) = false ∧ ¬ K = 4 ∧ ¬ K = 6) := by
    by_cases a : K = 4
    · exact .inl a
    · by_cases b : K = 6
      · exact .inr (.inl b)
      · exact .inr (.inr ⟨beq_eq_false_iff_ne.2 a, beq_eq_false_iff_ne.2 b, a, b⟩)
  have hk4 : K = 4 → ¬ (3 : Int) < (xs.length : Int) := fun h h' => h4 ⟨h, by omega⟩
  have hk6 : K = 6 → ¬ (2 : Int) < (xs.length : Int) := fun h h' => h5 ⟨h, by omega⟩
  clear h4 h5 HXN HXA HFC hn he
  rcases hkc with rfl | rfl | ⟨q1, q2, q3, q4⟩
  · have t34 := hk4 rfl
    clear hk4 hk6
    go_enter Tryz.func27, Tryz.ntmps27
    go_wp2_with fail
    go_loopw [7] (fun v7 wx => ∃ (k : Nat), k ≤ xs.length ∧ v7 = .int .i64 (k : Int) ∧ Hid ((xs.take k).all (okA (4 : Int)) = true) ∧ Hid (R wx)) (fun v7 _ => xs.length - (intOf v7).toNat)
    case atStart => exact ⟨0, Nat.zero_le _, rfl, rfl, HR0⟩
    case round =>
      clear HR0
      obtain ⟨k, hkn, rfl, HAll, HRr⟩ := hrel
      obtain ⟨Kr, hAr, hBr⟩ := HF.out wr ((HR.out _).1 HRr.out)
      have c0 := Kr.cell 0
      have c4 := Kr.cell 4
      simp at c0 c4
      have HBr := Lib.hid hBr
      clear hBr
      by_cases hlt : k < xs.length
      · obtain ⟨a, ha⟩ : ∃ a, xs[k]? = some a := ⟨_, List.getElem?_eq_getElem hlt⟩
        obtain ⟨b', o', t, hA', hSb, hC, hLa⟩ := hAr k a ha
        obtain ⟨At, ct, rfl, _, _⟩ := hLa.form_
        subst hA'
        obtain ⟨e0, e1, e2, e3, e4⟩ := hC
        have HNo : Hid (okA (4 : Int) a = false → x = false) := fun h => HXX.out.trans (all_no ha h)
        have HYes : Hid (okA (4 : Int) a = true → (xs.take (k + 1)).all (okA (4 : Int)) = true) := fun h => by rw [all_take _ ha, HAll.out, h]; rfl
        have CI := Lib.hid ((HIH.out a (List.mem_of_getElem? ha)).1 _ S wr hLa (HIH.out a (List.mem_of_getElem? ha)).2)
        have HRr2 : Hid (∀ w', Below wr.heap.size wr w' → R w' ∧ Below w.heap.size w w') := fun w' hb => by
          have h1 := (HR.out _).1 HRr.out
          have h3 := h1.trans (hb.mono h1.size)
          exact ⟨(HR.out _).2 h3, (HF.out _ h3).2.2⟩
        have hsg : ((4 : Int) < 5 ∨ (a.kind = 1 ∨ a.kind = 5 ∨ a.kind = 6)) ∨ (5 ≤ (4 : Int) ∧ a.kind ≠ 1 ∧ a.kind ≠ 5 ∧ a.kind ≠ 6) := by omega
        clear Kr hAr hLa ha HRr HAll
        rcases hsg with hsg | ⟨p1, p2, p3, p4⟩
        · have HFo : Hid (okA (4 : Int) a = form a) := by
            show _ = _
            unfold okA
            rcases hsg with h | h | h | h
            · rw [decide_eq_true h]; simp
            · have : single a = true := by unfold single; rw [decide_eq_true h]; rfl
              rw [this]; simp
            · have : single a = true := by unfold single; rw [decide_eq_true h]; simp
              rw [this]; simp
            · have : single a = true := by unfold single; rw [decide_eq_true h]; simp
              rw [this]; simp
          rw [HFo.out] at HNo HYes
          unfold rowD at CI
          have hsg' : ((4 : Int) < 5) ∨ (5 ≤ (4 : Int) ∧ a.kind = 1) ∨ (5 ≤ (4 : Int) ∧ a.kind = 5) ∨ (5 ≤ (4 : Int) ∧ a.kind = 6) := by omega
          clear hsg HFo
          generalize form a = fa at CI HNo HYes
          rcases hsg' with g | ⟨g, g'⟩ | ⟨g, g'⟩ | ⟨g, g'⟩
          all_goals try (exfalso; omega)
          · have g2 : ¬ (5 : Int) ≤ (4 : Int) := by omega
            cases fa with
            | false =>
              have HV : Hid (x = false) := HNo.out rfl
              clear HNo HYes
              go_wp2_with fail
              refine CI.out.mono ?_
              rintro e w3 ⟨rfl, hb3⟩
              have HB3 := Lib.hid (HRr2.out w3 hb3).2
              clear hb3 CI HRr2
              go_wp2_with fail
              go_ret
              exact ⟨by rw [HV.out]; rfl, HB3.out⟩
            | true =>
              have HV := Lib.hid (HYes.out rfl)
              clear HNo HYes
              go_wp2_with fail
              refine CI.out.mono ?_
              rintro e w3 ⟨rfl, hb3⟩
              have HR3 := Lib.hid (HRr2.out w3 hb3).1
              clear hb3 CI HRr2
              go_wp2_with fail
              go_roundw
              case rel => exact ⟨k + 1, by omega, by go_num, HV, HR3⟩
              case measure => simp [intOf]; omega
        · exfalso; omega
      · have HV : Hid (x = true) := by
          show x = _
          have h := HAll.out
          rw [List.take_of_length_le (by omega)] at h
          exact HXX.out.trans h
        clear Kr hAr HAll
        go_wp2_with fail
        go_ret
        exact ⟨by rw [HV.out]; rfl, HBr.out⟩
  · have t34 := hk6 rfl
    clear hk4 hk6
    go_enter Tryz.func27, Tryz.ntmps27
    go_wp2_with fail
    go_loopw [7] (fun v7 wx => ∃ (k : Nat), k ≤ xs.length ∧ v7 = .int .i64 (k : Int) ∧ Hid ((xs.take k).all (okA (6 : Int)) = true) ∧ Hid (R wx)) (fun v7 _ => xs.length - (intOf v7).toNat)
    case atStart => exact ⟨0, Nat.zero_le _, rfl, rfl, HR0⟩
    case round =>
      clear HR0
      obtain ⟨k, hkn, rfl, HAll, HRr⟩ := hrel
      obtain ⟨Kr, hAr, hBr⟩ := HF.out wr ((HR.out _).1 HRr.out)
      have c0 := Kr.cell 0
      have c4 := Kr.cell 4
      simp at c0 c4
      have HBr := Lib.hid hBr
      clear hBr
      by_cases hlt : k < xs.length
      · obtain ⟨a, ha⟩ : ∃ a, xs[k]? = some a := ⟨_, List.getElem?_eq_getElem hlt⟩
        obtain ⟨b', o', t, hA', hSb, hC, hLa⟩ := hAr k a ha
        obtain ⟨At, ct, rfl, _, _⟩ := hLa.form_
        subst hA'
        obtain ⟨e0, e1, e2, e3, e4⟩ := hC
        have HNo : Hid (okA (6 : Int) a = false → x = false) := fun h => HXX.out.trans (all_no ha h)
        have HYes : Hid (okA (6 : Int) a = true → (xs.take (k + 1)).all (okA (6 : Int)) = true) := fun h => by rw [all_take _ ha, HAll.out, h]; rfl
        have CI := Lib.hid ((HIH.out a (List.mem_of_getElem? ha)).1 _ S wr hLa (HIH.out a (List.mem_of_getElem? ha)).2)
        have HRr2 : Hid (∀ w', Below wr.heap.size wr w' → R w' ∧ Below w.heap.size w w') := fun w' hb => by
          have h1 := (HR.out _).1 HRr.out
          have h3 := h1.trans (hb.mono h1.size)
          exact ⟨(HR.out _).2 h3, (HF.out _ h3).2.2⟩
        have hsg : ((6 : Int) < 5 ∨ (a.kind = 1 ∨ a.kind = 5 ∨ a.kind = 6)) ∨ (5 ≤ (6 : Int) ∧ a.kind ≠ 1 ∧ a.kind ≠ 5 ∧ a.kind ≠ 6) := by omega
        clear Kr hAr hLa ha HRr HAll
        rcases hsg with hsg | ⟨p1, p2, p3, p4⟩
        · have HFo : Hid (okA (6 : Int) a = form a) := by
            show _ = _
            unfold okA
            rcases hsg with h | h | h | h
            · rw [decide_eq_true h]; simp
            · have : single a = true := by unfold single; rw [decide_eq_true h]; rfl
              rw [this]; simp
            · have : single a = true := by unfold single; rw [decide_eq_true h]; simp
              rw [this]; simp
            · have : single a = true := by unfold single; rw [decide_eq_true h]; simp
              rw [this]; simp
          rw [HFo.out] at HNo HYes
          unfold rowD at CI
          have hsg' : ((6 : Int) < 5) ∨ (5 ≤ (6 : Int) ∧ a.kind = 1) ∨ (5 ≤ (6 : Int) ∧ a.kind = 5) ∨ (5 ≤ (6 : Int) ∧ a.kind = 6) := by omega
          clear hsg HFo
          generalize form a = fa at CI HNo HYes
          rcases hsg' with g | ⟨g, g'⟩ | ⟨g, g'⟩ | ⟨g, g'⟩
          all_goals try (exfalso; omega)
          all_goals
            rw [g'] at CI e0
            cases fa with
            | false =>
              have HV : Hid (x = false) := HNo.out rfl
              clear HNo HYes
              go_wp2_with fail
              refine CI.out.mono ?_
              rintro e w3 ⟨rfl, hb3⟩
              have HB3 := Lib.hid (HRr2.out w3 hb3).2
              clear hb3 CI HRr2
              go_wp2_with fail
              go_ret
              exact ⟨by rw [HV.out]; rfl, HB3.out⟩
            | true =>
              have HV := Lib.hid (HYes.out rfl)
              clear HNo HYes
              go_wp2_with fail
              refine CI.out.mono ?_
              rintro e w3 ⟨rfl, hb3⟩
              have HR3 := Lib.hid (HRr2.out w3 hb3).1
              clear hb3 CI HRr2
              go_wp2_with fail
              go_roundw
              case rel => exact ⟨k + 1, by omega, by go_num, HV, HR3⟩
              case measure => simp [intOf]; omega
        · have HV : Hid (x = false) := HNo.out (by
            unfold okA single
            rw [decide_eq_false (show ¬ (6 : Int) < 5 by omega), decide_eq_false p2, decide_eq_false p3, decide_eq_false p4]
            rfl)
          have r2 : (a.kind != 1) = true := bne_iff_ne.2 p2
          have r3 : (a.kind != 5) = true := bne_iff_ne.2 p3
          have r4 : (a.kind != 6) = true := bne_iff_ne.2 p4
          clear HNo HYes CI HRr2 p2 p3 p4
          go_wp2_with fail
          go_ret
          exact ⟨by rw [HV.out]; rfl, HBr.out⟩
      · have HV : Hid (x = true) := by
          show x = _
          have h := HAll.out
          rw [List.take_of_length_le (by omega)] at h
          exact HXX.out.trans h
        clear Kr hAr HAll
        go_wp2_with fail
        go_ret
        exact ⟨by rw [HV.out]; rfl, HBr.out⟩
  · clear hk4 hk6
    go_enter Tryz.func27, Tryz.ntmps27
    go_wp2_with fail
    go_loopw [7] (fun v7 wx => ∃ (k : Nat), k ≤ xs.length ∧ v7 = .int .i64 (k : Int) ∧ Hid ((xs.take k).all (okA K) = true) ∧ Hid (R wx)) (fun v7 _ => xs.length - (intOf v7).toNat)
    case atStart => exact ⟨0, Nat.zero_le _, rfl, rfl, HR0⟩
    case round =>
      clear HR0
      obtain ⟨k, hkn, rfl, HAll, HRr⟩ := hrel
      obtain ⟨Kr, hAr, hBr⟩ := HF.out wr ((HR.out _).1 HRr.out)
      have c0 := Kr.cell 0
      have c4 := Kr.cell 4
      simp at c0 c4
      have HBr := Lib.hid hBr
      clear hBr
      by_cases hlt : k < xs.length
      · obtain ⟨a, ha⟩ : ∃ a, xs[k]? = some a := ⟨_, List.getElem?_eq_getElem hlt⟩
        obtain ⟨b', o', t, hA', hSb, hC, hLa⟩ := hAr k a ha
        obtain ⟨At, ct, rfl, _, _⟩ := hLa.form_
        subst hA'
        obtain ⟨e0, e1, e2, e3, e4⟩ := hC
        have HNo : Hid (okA K a = false → x = false) := fun h => HXX.out.trans (all_no ha h)
        have HYes : Hid (okA K a = true → (xs.take (k + 1)).all (okA K) = true) := fun h => by rw [all_take _ ha, HAll.out, h]; rfl
        have CI := Lib.hid ((HIH.out a (List.mem_of_getElem? ha)).1 _ S wr hLa (HIH.out a (List.mem_of_getElem? ha)).2)
        have HRr2 : Hid (∀ w', Below wr.heap.size wr w' → R w' ∧ Below w.heap.size w w') := fun w' hb => by
          have h1 := (HR.out _).1 HRr.out
          have h3 := h1.trans (hb.mono h1.size)
          exact ⟨(HR.out _).2 h3, (HF.out _ h3).2.2⟩
        have hsg : (K < 5 ∨ (a.kind = 1 ∨ a.kind = 5 ∨ a.kind = 6)) ∨ (5 ≤ K ∧ a.kind ≠ 1 ∧ a.kind ≠ 5 ∧ a.kind ≠ 6) := by omega
        clear Kr hAr hLa ha HRr HAll
        rcases hsg with hsg | ⟨p1, p2, p3, p4⟩
        · have HFo : Hid (okA K a = form a) := by
            show _ = _
            unfold okA
            rcases hsg with h | h | h | h
            · rw [decide_eq_true h]; simp
            · have : single a = true := by unfold single; rw [decide_eq_true h]; rfl
              rw [this]; simp
            · have : single a = true := by unfold single; rw [decide_eq_true h]; simp
              rw [this]; simp
            · have : single a = true := by unfold single; rw [decide_eq_true h]; simp
              rw [this]; simp
          rw [HFo.out] at HNo HYes
          unfold rowD at CI
          have hsg' : (K < 5) ∨ (5 ≤ K ∧ a.kind = 1) ∨ (5 ≤ K ∧ a.kind = 5) ∨ (5 ≤ K ∧ a.kind = 6) := by omega
          clear hsg HFo
          generalize form a = fa at CI HNo HYes
          rcases hsg' with g | ⟨g, g'⟩ | ⟨g, g'⟩ | ⟨g, g'⟩
          · have g2 : ¬ (5 : Int) ≤ K := by omega
            cases fa with
            | false =>
              have HV : Hid (x = false) := HNo.out rfl
              clear HNo HYes
              go_wp2_with fail
              refine CI.out.mono ?_
              rintro e w3 ⟨rfl, hb3⟩
              have HB3 := Lib.hid (HRr2.out w3 hb3).2
              clear hb3 CI HRr2
              go_wp2_with fail
              go_ret
              exact ⟨by rw [HV.out]; rfl, HB3.out⟩
            | true =>
              have HV := Lib.hid (HYes.out rfl)
              clear HNo HYes
              go_wp2_with fail
              refine CI.out.mono ?_
              rintro e w3 ⟨rfl, hb3⟩
              have HR3 := Lib.hid (HRr2.out w3 hb3).1
              clear hb3 CI HRr2
              go_wp2_with fail
              go_roundw
              case rel => exact ⟨k + 1, by omega, by go_num, HV, HR3⟩
              case measure => simp [intOf]; omega
          all_goals
            rw [g'] at CI e0
            cases fa with
            | false =>
              have HV : Hid (x = false) := HNo.out rfl
              clear HNo HYes
              go_wp2_with fail
              refine CI.out.mono ?_
              rintro e w3 ⟨rfl, hb3⟩
              have HB3 := Lib.hid (HRr2.out w3 hb3).2
              clear hb3 CI HRr2
              go_wp2_with fail
              go_ret
              exact ⟨by rw [HV.out]; rfl, HB3.out⟩
            | true =>
              have HV := Lib.hid (HYes.out rfl)
              clear HNo HYes
              go_wp2_with fail
              refine CI.out.mono ?_
              rintro e w3 ⟨rfl, hb3⟩
              have HR3 := Lib.hid (HRr2.out w3 hb3).1
              clear hb3 CI HRr2
              go_wp2_with fail
              go_roundw
              case rel => exact ⟨k + 1, by omega, by go_num, HV, HR3⟩
              case measure => simp [intOf]; omega
        · have HV : Hid (x = false) := HNo.out (by
            unfold okA single
            rw [decide_eq_false (show ¬ K < 5 by omega), decide_eq_false p2, decide_eq_false p3, decide_eq_false p4]
            rfl)
          have r2 : (a.kind != 1) = true := bne_iff_ne.2 p2
          have r3 : (a.kind != 5) = true := bne_iff_ne.2 p3
          have r4 : (a.kind != 6) = true := bne_iff_ne.2 p4
          clear HNo HYes CI HRr2 p2 p3 p4
          go_wp2_with fail
          go_ret
          exact ⟨by rw [HV.out]; rfl, HBr.out⟩
      · have HV : Hid (x = true) := by
          show x = _
          have h := HAll.out
          rw [List.take_of_length_le (by omega)] at h
          exact HXX.out.trans h
        clear Kr hAr HAll
        go_wp2_with fail
        go_ret
        exact ⟨by rw [HV.out]; rfl, HBr.out⟩
end Go.Proofs.YtghbhajiddnmkaaGreatDoor
namespace Go.Proofs.YtghbhajiddnmkaaGreatDoor
set_option linter.unusedSimpArgs false
set_option linter.unusedVariables false
open Go.RowKit

theorem refForm_any (d : Dep) : FormOk d := by
  induction d using Dep.ind with
  | h k n o e xs ih =>
    by_cases hk : k = 1
    · subst hk; exact refForm_leaf n o e xs
    · exact refForm_node k n o e xs hk ih
set_option maxHeartbeats 1000000 in
set_option maxRecDepth 100000 in
theorem refCheckD_any (d : Dep) (s : Value) (S : Nat → Prop) (w : World) (hL : Lay w S d s) (hsm : small d) (hN : nodes d ≤ 4194304) : Calls Tryz.prog 13 #[.agg (rowD d s)] w fun e w' => e = .returned (.int .i64 (checkN d)) ∧ Below w.heap.size w w' := by
  obtain ⟨A, c, rfl, _, _⟩ := hL.form_
  obtain ⟨w1, hw1⟩ : ∃ w1, w1 = w.alloc (.cells (rowD d (.slice A d.args.length c)) 24) := ⟨_, rfl⟩
  have hB1 : Below w.heap.size w w1 := by rw [hw1]; exact (Below.refl _ _).alloc (Nat.le_refl _) _
  have K : Blk w1 w.heap.size 24 (rowD d (.slice A d.args.length c)) := by rw [hw1]; exact Blk.new _ _ _
  have hz : w1.heap.size = w.heap.size + 1 := by rw [hw1]; simp
  have hL1 := hL.stay (fun _ h => h) (StayS.below' hB1)
  have CF := Lib.hid (refForm_any d _ S w1 hL1 hsm)
  have CP : Hid (∀ w2, Below w1.heap.size w1 w2 → Blk w2 w.heap.size 24 (rowD d (.slice A d.args.length c)) ∧ Below w.heap.size w w2 ∧ Calls Tryz.prog 28 #[.agg (rowD d (.slice A d.args.length c))] w2 (fun e w' => e = .returned (.int .i64 (leaves d : Int)) ∧ Below w2.heap.size w2 w')) := fun w2 hb => ⟨K.below hb (by omega), hB1.trans (hb.mono (by omega)), refParts_any d _ S w2 (hL1.stay (fun _ h => h) (StayS.below' hb)) hN⟩
  obtain ⟨x, hx⟩ : ∃ x, Hid (x = form d) := ⟨_, rfl⟩
  rw [← hx.out] at CF
  obtain ⟨q, hq⟩ : ∃ q, Hid (q = checkN d) := ⟨_, rfl⟩
  rw [← hq.out]
  have HQ : Hid (q = if x = true then (if 16 < leaves d then 51 else 0) else 50) := by show _ = _; rw [hq.out, hx.out]; rfl
  have hlv : leaves d ≤ 4194304 := by have := leaves_nodes d; omega
  clear hL hsm hN hB1 K hz hL1 hx hq
  subst hw1
  unfold rowD at CF CP ⊢
  go_enter Tryz.func13, Tryz.ntmps13
  go_wp2_with fail
  refine CF.out.mono ?_
  rintro e w2 ⟨rfl, hb2⟩
  obtain ⟨K2, hB2, C2⟩ := CP.out w2 hb2
  have k0 := K2.cell 0
  have k1 := K2.cell 1
  have k2 := K2.cell 2
  have k3 := K2.cell 3
  have k4 := K2.cell 4
  simp at k0 k1 k2 k3 k4
  have HC2 := Lib.hid C2
  have HB2 := Lib.hid hB2
  clear K2 hB2 C2 hb2 CF CP
  cases x with
  | false =>
    have HV : Hid (q = 50) := HQ.out
    clear HQ HC2
    go_wp2_with fail
    go_ret
    exact ⟨by rw [HV.out]; rfl, HB2.out⟩
  | true =>
    have HQ2 : Hid (q = if 16 < leaves d then 51 else 0) := HQ.out
    clear HQ
    generalize leaves d = m at *
    go_wp2_with fail
    refine HC2.out.mono ?_
    rintro e w3 ⟨rfl, hb3⟩
    have HB3 : Hid (Below w.heap.size w w3) := HB2.out.trans (hb3.mono HB2.out.size)
    clear hb3 HC2 HB2
    by_cases hm : 16 < m
    · have HV : Hid (q = 51) := HQ2.out.trans (if_pos hm)
      have t : (16 : Int) < (m : Int) := by omega
      clear HQ2
      go_wp2_with fail
      go_ret
      exact ⟨by rw [HV.out]; rfl, HB3.out⟩
    · have HV : Hid (q = 0) := HQ2.out.trans (if_neg hm)
      have t : ¬ (16 : Int) < (m : Int) := by omega
      clear HQ2
      go_wp2_with fail
      go_ret
      exact ⟨by rw [HV.out]; rfl, HB3.out⟩

end Go.Proofs.YtghbhajiddnmkaaGreatDoor
