/- The reference's forms and check. The reference's answer on a text; DepReads. -/
import Derived.Test.YtghbhajiddnmkaaDoorDRefGH
import Derived.Test.YtghbhajiddnmkaaDoorDRefF
import Derived.Test.YtghbhajiddnmkaaDoorDAwake
import Derived.Deep.Grids
namespace Go.Proofs.YtghbhajiddnmkaaDoor
set_option linter.unusedSimpArgs false
set_option linter.unusedVariables false
open Go.RowKit

theorem all_take {xs : List Dep} {k : Nat} {a : Dep} (K : Int) (h : xs[k]? = some a) : (xs.take (k + 1)).all (okA K) = ((xs.take k).all (okA K) && okA K a) := by
  rw [List.take_add_one, h, List.all_append]
  simp
theorem all_no {xs : List Dep} {k : Nat} {a : Dep} {K : Int} (h : xs[k]? = some a) (hf : okA K a = false) : xs.all (okA K) = false := by
  cases hx : xs.all (okA K) with
  | false => rfl
  | true =>
    have := List.all_eq_true.1 hx a (List.mem_of_getElem? h)
    rw [hf] at this
    cases this
set_option maxHeartbeats 8000000 in
set_option maxRecDepth 1000000 in
theorem refForm_node (K : Int) (n : ByteArray) (o : Int) (ev : ByteArray) (xs : List Dep) (hk : K ≠ 1) (ih : ∀ a ∈ xs, FormOk a) : FormOk (.mk K n o ev xs) := by
  intro s S w hL hsm
  obtain ⟨A, c, rfl, hc1, hc2, hA⟩ := hL.args_
  obtain ⟨hz1, hz2, hz3⟩ := small_parts hsm
  simp only [Dep.name, Dep.evr, Dep.args] at hz1 hz2 hz3 hc1 hA ⊢
  have hlb : xs.length ≤ 9223372036854775807 := by unfold maxLen at hc2; omega
  obtain ⟨x, hx⟩ : ∃ x, Hid (x = form (.mk K n o ev xs)) := ⟨_, rfl⟩
  rw [← hx.out]
  have HXN : Hid ((form (.mk K n o ev xs) = true → False) → x = false) := fun h => by
    show x = false
    rw [hx.out]
    cases hf : form (.mk K n o ev xs) with
    | false => rfl
    | true => exact (h hf).elim
  have HXA : Hid (n.data.toList = [] → o = 0 → ev.data.toList = [] → 2 ≤ K → K ≤ 6 → 2 ≤ xs.length → (K = 4 → xs.length ≤ 3) → (K = 6 → xs.length ≤ 2) → x = xs.all (okA K)) := fun a1 a2 a3 a4 a5 a6 a7 a8 => by
    show x = _
    rw [hx.out, empty_back a1, a2, empty_back a3]
    exact form_nodeB a4 a5 a6 a7 a8
  have hFC : form (.mk K n o ev xs) = true → _ := form_conds hk
  obtain ⟨w1, hw1⟩ : ∃ w1, w1 = w.alloc (.cells #[.int .i64 K, .string n, .int .i64 o, .string ev, .slice A xs.length c] 25) := ⟨_, rfl⟩
  have HB : Hid (Below w.heap.size w w1) := by rw [hw1]; exact (Below.refl _ _).alloc (Nat.le_refl _) _
  have K0 : Blk w1 w.heap.size 25 #[.int .i64 K, .string n, .int .i64 o, .string ev, .slice A xs.length c] := by rw [hw1]; exact Blk.new _ _ _
  have hz : w1.heap.size = w.heap.size + 1 := by rw [hw1]; simp
  have hA1 : ArgsAt w1 S xs A := hA.stay (fun _ h => h) (StayS.below' HB.out)
  have HF : Hid (∀ wx, Below w1.heap.size w1 wx → Blk wx w.heap.size 25 #[.int .i64 K, .string n, .int .i64 o, .string ev, .slice A xs.length c] ∧ ArgsAt wx S xs A ∧ Below w.heap.size w wx) := fun wx hb => ⟨K0.below hb (by omega), hA1.stay (fun _ h => h) (StayS.below' hb), HB.out.trans (hb.mono (by omega))⟩
  have HIH : Hid (∀ a ∈ xs, FormOk a ∧ small a) := fun a ha => ⟨ih a ha, hz3 a ha⟩
  obtain ⟨R, HR⟩ : ∃ R : World → Prop, Hid (∀ wx, R wx ↔ Below w1.heap.size w1 wx) := ⟨fun wx => Below w1.heap.size w1 wx, fun _ => Iff.rfl⟩
  have HR0 : Hid (R w1) := (HR.out _).2 (Below.refl _ _)
  have hk1 : (K == 1) = false := beq_eq_false_iff_ne.2 hk
  have hk1' : ¬ K = 1 := hk
  have HFC := Lib.hid hFC
  unfold rowD
  simp only [Dep.kind, Dep.name, Dep.op, Dep.evr, Dep.args]
  clear hL hsm hA hz1 hz2 hz3 hx hFC K0 hA1 ih hz hk hc2 hc1
  subst hw1
  by_cases h2 : K < 2
  · have HV : Hid (x = false) := HXN.out (fun h => by have := HFC.out h; omega)
    clear HXN HXA HF HIH HR0 HR HFC
    go_enter Tryd.func44, Tryd.ntmps44
    go_wp2_with fail
    go_ret
    exact ⟨by rw [HV.out]; rfl, HB.out⟩
  by_cases h6 : 6 < K
  · have HV : Hid (x = false) := HXN.out (fun h => by have := HFC.out h; omega)
    clear HXN HXA HF HIH HR0 HR HFC
    go_enter Tryd.func44, Tryd.ntmps44
    go_wp2_with fail
    go_ret
    exact ⟨by rw [HV.out]; rfl, HB.out⟩
  by_cases hn : n.data.toList ≠ []
  · have HV : Hid (x = false) := HXN.out (fun h => hn (HFC.out h).2.2.1)
    obtain ⟨b1, b2, b3⟩ := blank_of (blank_no hn)
    have b4 : (n.toList == []) = false := by rw [ByteArray.toList_eq]; exact beq_eq_false_iff_ne.2 hn
    clear hn b3
    clear HXN HXA HF HIH HR0 HR HFC
    go_enter Tryd.func44, Tryd.ntmps44
    go_wp2_with fail
    go_ret
    exact ⟨by rw [HV.out]; rfl, HB.out⟩
  have hn : n.data.toList = [] := Classical.not_not.1 hn
  have hn0 := empty_back hn
  subst hn0
  by_cases ho : o ≠ 0
  · have HV : Hid (x = false) := HXN.out (fun h => ho (HFC.out h).2.2.2.1)
    have t0 : (o != 0) = true := bne_iff_ne.2 ho
    clear ho
    clear HXN HXA HF HIH HR0 HR HFC
    go_enter Tryd.func44, Tryd.ntmps44
    go_wp2_with fail
    go_ret
    exact ⟨by rw [HV.out]; rfl, HB.out⟩
  have ho : o = 0 := Classical.not_not.1 ho
  subst ho
  by_cases he : ev.data.toList ≠ []
  · have HV : Hid (x = false) := HXN.out (fun h => he (HFC.out h).2.2.2.2.1)
    obtain ⟨b1, b2, b3⟩ := blank_of (blank_no he)
    have b4 : (ev.toList == []) = false := by rw [ByteArray.toList_eq]; exact beq_eq_false_iff_ne.2 he
    clear he b3
    clear HXN HXA HF HIH HR0 HR HFC
    go_enter Tryd.func44, Tryd.ntmps44
    go_wp2_with fail
    go_ret
    exact ⟨by rw [HV.out]; rfl, HB.out⟩
  have he : ev.data.toList = [] := Classical.not_not.1 he
  have he0 := empty_back he
  subst he0
  by_cases hl : xs.length < 2
  · have HV : Hid (x = false) := HXN.out (fun h => by have := HFC.out h; omega)
    have t0 : (xs.length : Int) < 2 := by omega
    clear HXN HXA HF HIH HR0 HR HFC
    go_enter Tryd.func44, Tryd.ntmps44
    go_wp2_with fail
    go_ret
    exact ⟨by rw [HV.out]; rfl, HB.out⟩
  have hlI : ¬ (xs.length : Int) < 2 := by omega
  by_cases h4 : K = 4 ∧ 3 < xs.length
  · have HV : Hid (x = false) := HXN.out (fun h => by have := (HFC.out h).2.2.2.2.2.2.1 h4.1; omega)
    obtain ⟨rfl, h4⟩ := h4
    have t0 : (3 : Int) < (xs.length : Int) := by omega
    clear HXN HXA HF HIH HR0 HR HFC
    go_enter Tryd.func44, Tryd.ntmps44
    go_wp2_with fail
    go_ret
    exact ⟨by rw [HV.out]; rfl, HB.out⟩
  by_cases h5 : K = 6 ∧ 2 < xs.length
  · have HV : Hid (x = false) := HXN.out (fun h => by have := (HFC.out h).2.2.2.2.2.2.2 h5.1; omega)
    obtain ⟨rfl, h5⟩ := h5
    have t0 : (2 : Int) < (xs.length : Int) := by omega
    clear HXN HXA HF HIH HR0 HR HFC
    go_enter Tryd.func44, Tryd.ntmps44
    go_wp2_with fail
    go_ret
    exact ⟨by rw [HV.out]; rfl, HB.out⟩
  have HXX : Hid (x = xs.all (okA K)) := HXA.out hn rfl he (by omega) (by omega) (by omega) (fun h => by have : ¬ 3 < xs.length := fun h' => h4 ⟨h, h'⟩; omega) (fun h => by have : ¬ 2 < xs.length := fun h' => h5 ⟨h, h'⟩; omega)
  have hkc : K = 4 ∨ K = 6 ∨ ((K == 4) = false ∧ (K == 6) = false ∧ ¬ K = 4 ∧ ¬ K = 6) := by
    by_cases a : K = 4
    · exact .inl a
    · by_cases b : K = 6
      · exact .inr (.inl b)
      · exact .inr (.inr ⟨beq_eq_false_iff_ne.2 a, beq_eq_false_iff_ne.2 b, a, b⟩)
  have hk4 : K = 4 → ¬ (3 : Int) < (xs.length : Int) := fun h h' => h4 ⟨h, by omega⟩
  have hk6 : K = 6 → ¬ (2 : Int) < (xs.length : Int) := fun h h' => h5 ⟨h, by omega⟩
  clear h4 h5 HXN HXA HFC hn he
  rcases hkc with rfl | rfl | ⟨q1, q2, q3, q4⟩
  · have t34 := hk4 rfl
    clear hk4 hk6
    go_enter Tryd.func44, Tryd.ntmps44
    go_wp2_with fail
    go_loopw [7] (fun v7 wx => ∃ (k : Nat), k ≤ xs.length ∧ v7 = .int .i64 (k : Int) ∧ Hid ((xs.take k).all (okA (4 : Int)) = true) ∧ Hid (R wx)) (fun v7 _ => xs.length - (intOf v7).toNat)
    case atStart => exact ⟨0, Nat.zero_le _, rfl, rfl, HR0⟩
    case round =>
      clear HR0
      obtain ⟨k, hkn, rfl, HAll, HRr⟩ := hrel
      obtain ⟨Kr, hAr, hBr⟩ := HF.out wr ((HR.out _).1 HRr.out)
      have c0 := Kr.cell 0
      have c4 := Kr.cell 4
      simp at c0 c4
      have HBr := Lib.hid hBr
      clear hBr
      by_cases hlt : k < xs.length
      · obtain ⟨a, ha⟩ : ∃ a, xs[k]? = some a := ⟨_, List.getElem?_eq_getElem hlt⟩
        obtain ⟨b', o', t, hA', hSb, hC, hLa⟩ := hAr k a ha
        obtain ⟨At, ct, rfl, _, _⟩ := hLa.form_
        subst hA'
        obtain ⟨e0, e1, e2, e3, e4⟩ := hC
        have HNo : Hid (okA (4 : Int) a = false → x = false) := fun h => HXX.out.trans (all_no ha h)
        have HYes : Hid (okA (4 : Int) a = true → (xs.take (k + 1)).all (okA (4 : Int)) = true) := fun h => by rw [all_take _ ha, HAll.out, h]; rfl
        have CI := Lib.hid ((HIH.out a (List.mem_of_getElem? ha)).1 _ S wr hLa (HIH.out a (List.mem_of_getElem? ha)).2)
        have HRr2 : Hid (∀ w', Below wr.heap.size wr w' → R w' ∧ Below w.heap.size w w') := fun w' hb => by
          have h1 := (HR.out _).1 HRr.out
          have h3 := h1.trans (hb.mono h1.size)
          exact ⟨(HR.out _).2 h3, (HF.out _ h3).2.2⟩
        have hsg : ((4 : Int) < 5 ∨ (a.kind = 1 ∨ a.kind = 5 ∨ a.kind = 6)) ∨ (5 ≤ (4 : Int) ∧ a.kind ≠ 1 ∧ a.kind ≠ 5 ∧ a.kind ≠ 6) := by omega
        clear Kr hAr hLa ha HRr HAll
        rcases hsg with hsg | ⟨p1, p2, p3, p4⟩
        · have HFo : Hid (okA (4 : Int) a = form a) := by
            show _ = _
            unfold okA
            rcases hsg with h | h | h | h
            · rw [decide_eq_true h]; simp
            · have : single a = true := by unfold single; rw [decide_eq_true h]; rfl
              rw [this]; simp
            · have : single a = true := by unfold single; rw [decide_eq_true h]; simp
              rw [this]; simp
            · have : single a = true := by unfold single; rw [decide_eq_true h]; simp
              rw [this]; simp
          rw [HFo.out] at HNo HYes
          unfold rowD at CI
          have hsg' : ((4 : Int) < 5) ∨ (5 ≤ (4 : Int) ∧ a.kind = 1) ∨ (5 ≤ (4 : Int) ∧ a.kind = 5) ∨ (5 ≤ (4 : Int) ∧ a.kind = 6) := by omega
          clear hsg HFo
          generalize form a = fa at CI HNo HYes
          rcases hsg' with g | ⟨g, g'⟩ | ⟨g, g'⟩ | ⟨g, g'⟩
          all_goals try (exfalso; omega)
          · have g2 : ¬ (5 : Int) ≤ (4 : Int) := by omega
            cases fa with
            | false =>
              have HV : Hid (x = false) := HNo.out rfl
              clear HNo HYes
              go_wp2_with fail
              refine CI.out.mono ?_
              rintro e w3 ⟨rfl, hb3⟩
              have HB3 := Lib.hid (HRr2.out w3 hb3).2
              clear hb3 CI HRr2
              go_wp2_with fail
              go_ret
              exact ⟨by rw [HV.out]; rfl, HB3.out⟩
            | true =>
              have HV := Lib.hid (HYes.out rfl)
              clear HNo HYes
              go_wp2_with fail
              refine CI.out.mono ?_
              rintro e w3 ⟨rfl, hb3⟩
              have HR3 := Lib.hid (HRr2.out w3 hb3).1
              clear hb3 CI HRr2
              go_wp2_with fail
              go_roundw
              case rel => exact ⟨k + 1, by omega, by go_num, HV, HR3⟩
              case measure => simp [intOf]; omega
        · exfalso; omega
      · have HV : Hid (x = true) := by
          show x = _
          have h := HAll.out
          rw [List.take_of_length_le (by omega)] at h
          exact HXX.out.trans h
        clear Kr hAr HAll
        go_wp2_with fail
        go_ret
        exact ⟨by rw [HV.out]; rfl, HBr.out⟩
  · have t34 := hk6 rfl
    clear hk4 hk6
    go_enter Tryd.func44, Tryd.ntmps44
    go_wp2_with fail
    go_loopw [7] (fun v7 wx => ∃ (k : Nat), k ≤ xs.length ∧ v7 = .int .i64 (k : Int) ∧ Hid ((xs.take k).all (okA (6 : Int)) = true) ∧ Hid (R wx)) (fun v7 _ => xs.length - (intOf v7).toNat)
    case atStart => exact ⟨0, Nat.zero_le _, rfl, rfl, HR0⟩
    case round =>
      clear HR0
      obtain ⟨k, hkn, rfl, HAll, HRr⟩ := hrel
      obtain ⟨Kr, hAr, hBr⟩ := HF.out wr ((HR.out _).1 HRr.out)
      have c0 := Kr.cell 0
      have c4 := Kr.cell 4
      simp at c0 c4
      have HBr := Lib.hid hBr
      clear hBr
      by_cases hlt : k < xs.length
      · obtain ⟨a, ha⟩ : ∃ a, xs[k]? = some a := ⟨_, List.getElem?_eq_getElem hlt⟩
        obtain ⟨b', o', t, hA', hSb, hC, hLa⟩ := hAr k a ha
        obtain ⟨At, ct, rfl, _, _⟩ := hLa.form_
        subst hA'
        obtain ⟨e0, e1, e2, e3, e4⟩ := hC
        have HNo : Hid (okA (6 : Int) a = false → x = false) := fun h => HXX.out.trans (all_no ha h)
        have HYes : Hid (okA (6 : Int) a = true → (xs.take (k + 1)).all (okA (6 : Int)) = true) := fun h => by rw [all_take _ ha, HAll.out, h]; rfl
        have CI := Lib.hid ((HIH.out a (List.mem_of_getElem? ha)).1 _ S wr hLa (HIH.out a (List.mem_of_getElem? ha)).2)
        have HRr2 : Hid (∀ w', Below wr.heap.size wr w' → R w' ∧ Below w.heap.size w w') := fun w' hb => by
          have h1 := (HR.out _).1 HRr.out
          have h3 := h1.trans (hb.mono h1.size)
          exact ⟨(HR.out _).2 h3, (HF.out _ h3).2.2⟩
        have hsg : ((6 : Int) < 5 ∨ (a.kind = 1 ∨ a.kind = 5 ∨ a.kind = 6)) ∨ (5 ≤ (6 : Int) ∧ a.kind ≠ 1 ∧ a.kind ≠ 5 ∧ a.kind ≠ 6) := by omega
        clear Kr hAr hLa ha HRr HAll
        rcases hsg with hsg | ⟨p1, p2, p3, p4⟩
        · have HFo : Hid (okA (6 : Int) a = form a) := by
            show _ = _
            unfold okA
            rcases hsg with h | h | h | h
            · rw [decide_eq_true h]; simp
            · have : single a = true := by unfold single; rw [decide_eq_true h]; rfl
              rw [this]; simp
            · have : single a = true := by unfold single; rw [decide_eq_true h]; simp
              rw [this]; simp
            · have : single a = true := by unfold single; rw [decide_eq_true h]; simp
              rw [this]; simp
          rw [HFo.out] at HNo HYes
          unfold rowD at CI
          have hsg' : ((6 : Int) < 5) ∨ (5 ≤ (6 : Int) ∧ a.kind = 1) ∨ (5 ≤ (6 : Int) ∧ a.kind = 5) ∨ (5 ≤ (6 : Int) ∧ a.kind = 6) := by omega
          clear hsg HFo
          generalize form a = fa at CI HNo HYes
          rcases hsg' with g | ⟨g, g'⟩ | ⟨g, g'⟩ | ⟨g, g'⟩
          all_goals try (exfalso; omega)
          all_goals
            rw [g'] at CI e0
            cases fa with
            | false =>
              have HV : Hid (x = false) := HNo.out rfl
              clear HNo HYes
              go_wp2_with fail
              refine CI.out.mono ?_
              rintro e w3 ⟨rfl, hb3⟩
              have HB3 := Lib.hid (HRr2.out w3 hb3).2
              clear hb3 CI HRr2
              go_wp2_with fail
              go_ret
              exact ⟨by rw [HV.out]; rfl, HB3.out⟩
            | true =>
              have HV := Lib.hid (HYes.out rfl)
              clear HNo HYes
              go_wp2_with fail
              refine CI.out.mono ?_
              rintro e w3 ⟨rfl, hb3⟩
              have HR3 := Lib.hid (HRr2.out w3 hb3).1
              clear hb3 CI HRr2
              go_wp2_with fail
              go_roundw
              case rel => exact ⟨k + 1, by omega, by go_num, HV, HR3⟩
              case measure => simp [intOf]; omega
        · have HV : Hid (x = false) := HNo.out (by
            unfold okA single
            rw [decide_eq_false (show ¬ (6 : Int) < 5 by omega), decide_eq_false p2, decide_eq_false p3, decide_eq_false p4]
            rfl)
          have r2 : (a.kind != 1) = true := bne_iff_ne.2 p2
          have r3 : (a.kind != 5) = true := bne_iff_ne.2 p3
          have r4 : (a.kind != 6) = true := bne_iff_ne.2 p4
          clear HNo HYes CI HRr2 p2 p3 p4
          go_wp2_with fail
          go_ret
          exact ⟨by rw [HV.out]; rfl, HBr.out⟩
      · have HV : Hid (x = true) := by
          show x = _
          have h := HAll.out
          rw [List.take_of_length_le (by omega)] at h
          exact HXX.out.trans h
        clear Kr hAr HAll
        go_wp2_with fail
        go_ret
        exact ⟨by rw [HV.out]; rfl, HBr.out⟩
  · clear hk4 hk6
    go_enter Tryd.func44, Tryd.ntmps44
    go_wp2_with fail
    go_loopw [7] (fun v7 wx => ∃ (k : Nat), k ≤ xs.length ∧ v7 = .int .i64 (k : Int) ∧ Hid ((xs.take k).all (okA K) = true) ∧ Hid (R wx)) (fun v7 _ => xs.length - (intOf v7).toNat)
    case atStart => exact ⟨0, Nat.zero_le _, rfl, rfl, HR0⟩
    case round =>
      clear HR0
      obtain ⟨k, hkn, rfl, HAll, HRr⟩ := hrel
      obtain ⟨Kr, hAr, hBr⟩ := HF.out wr ((HR.out _).1 HRr.out)
      have c0 := Kr.cell 0
      have c4 := Kr.cell 4
      simp at c0 c4
      have HBr := Lib.hid hBr
      clear hBr
      by_cases hlt : k < xs.length
      · obtain ⟨a, ha⟩ : ∃ a, xs[k]? = some a := ⟨_, List.getElem?_eq_getElem hlt⟩
        obtain ⟨b', o', t, hA', hSb, hC, hLa⟩ := hAr k a ha
        obtain ⟨At, ct, rfl, _, _⟩ := hLa.form_
        subst hA'
        obtain ⟨e0, e1, e2, e3, e4⟩ := hC
        have HNo : Hid (okA K a = false → x = false) := fun h => HXX.out.trans (all_no ha h)
        have HYes : Hid (okA K a = true → (xs.take (k + 1)).all (okA K) = true) := fun h => by rw [all_take _ ha, HAll.out, h]; rfl
        have CI := Lib.hid ((HIH.out a (List.mem_of_getElem? ha)).1 _ S wr hLa (HIH.out a (List.mem_of_getElem? ha)).2)
        have HRr2 : Hid (∀ w', Below wr.heap.size wr w' → R w' ∧ Below w.heap.size w w') := fun w' hb => by
          have h1 := (HR.out _).1 HRr.out
          have h3 := h1.trans (hb.mono h1.size)
          exact ⟨(HR.out _).2 h3, (HF.out _ h3).2.2⟩
        have hsg : (K < 5 ∨ (a.kind = 1 ∨ a.kind = 5 ∨ a.kind = 6)) ∨ (5 ≤ K ∧ a.kind ≠ 1 ∧ a.kind ≠ 5 ∧ a.kind ≠ 6) := by omega
        clear Kr hAr hLa ha HRr HAll
        rcases hsg with hsg | ⟨p1, p2, p3, p4⟩
        · have HFo : Hid (okA K a = form a) := by
            show _ = _
            unfold okA
            rcases hsg with h | h | h | h
            · rw [decide_eq_true h]; simp
            · have : single a = true := by unfold single; rw [decide_eq_true h]; rfl
              rw [this]; simp
            · have : single a = true := by unfold single; rw [decide_eq_true h]; simp
              rw [this]; simp
            · have : single a = true := by unfold single; rw [decide_eq_true h]; simp
              rw [this]; simp
          rw [HFo.out] at HNo HYes
          unfold rowD at CI
          have hsg' : (K < 5) ∨ (5 ≤ K ∧ a.kind = 1) ∨ (5 ≤ K ∧ a.kind = 5) ∨ (5 ≤ K ∧ a.kind = 6) := by omega
          clear hsg HFo
          generalize form a = fa at CI HNo HYes
          rcases hsg' with g | ⟨g, g'⟩ | ⟨g, g'⟩ | ⟨g, g'⟩
          · have g2 : ¬ (5 : Int) ≤ K := by omega
            cases fa with
            | false =>
              have HV : Hid (x = false) := HNo.out rfl
              clear HNo HYes
              go_wp2_with fail
              refine CI.out.mono ?_
              rintro e w3 ⟨rfl, hb3⟩
              have HB3 := Lib.hid (HRr2.out w3 hb3).2
              clear hb3 CI HRr2
              go_wp2_with fail
              go_ret
              exact ⟨by rw [HV.out]; rfl, HB3.out⟩
            | true =>
              have HV := Lib.hid (HYes.out rfl)
              clear HNo HYes
              go_wp2_with fail
              refine CI.out.mono ?_
              rintro e w3 ⟨rfl, hb3⟩
              have HR3 := Lib.hid (HRr2.out w3 hb3).1
              clear hb3 CI HRr2
              go_wp2_with fail
              go_roundw
              case rel => exact ⟨k + 1, by omega, by go_num, HV, HR3⟩
              case measure => simp [intOf]; omega
          all_goals
            rw [g'] at CI e0
            cases fa with
            | false =>
              have HV : Hid (x = false) := HNo.out rfl
              clear HNo HYes
              go_wp2_with fail
              refine CI.out.mono ?_
              rintro e w3 ⟨rfl, hb3⟩
              have HB3 := Lib.hid (HRr2.out w3 hb3).2
              clear hb3 CI HRr2
              go_wp2_with fail
              go_ret
              exact ⟨by rw [HV.out]; rfl, HB3.out⟩
            | true =>
              have HV := Lib.hid (HYes.out rfl)
              clear HNo HYes
              go_wp2_with fail
              refine CI.out.mono ?_
              rintro e w3 ⟨rfl, hb3⟩
              have HR3 := Lib.hid (HRr2.out w3 hb3).1
              clear hb3 CI HRr2
              go_wp2_with fail
              go_roundw
              case rel => exact ⟨k + 1, by omega, by go_num, HV, HR3⟩
              case measure => simp [intOf]; omega
        · have HV : Hid (x = false) := HNo.out (by
            unfold okA single
            rw [decide_eq_false (show ¬ K < 5 by omega), decide_eq_false p2, decide_eq_false p3, decide_eq_false p4]
            rfl)
          have r2 : (a.kind != 1) = true := bne_iff_ne.2 p2
          have r3 : (a.kind != 5) = true := bne_iff_ne.2 p3
          have r4 : (a.kind != 6) = true := bne_iff_ne.2 p4
          clear HNo HYes CI HRr2 p2 p3 p4
          go_wp2_with fail
          go_ret
          exact ⟨by rw [HV.out]; rfl, HBr.out⟩
      · have HV : Hid (x = true) := by
          show x = _
          have h := HAll.out
          rw [List.take_of_length_le (by omega)] at h
          exact HXX.out.trans h
        clear Kr hAr HAll
        go_wp2_with fail
        go_ret
        exact ⟨by rw [HV.out]; rfl, HBr.out⟩
end Go.Proofs.YtghbhajiddnmkaaDoor
namespace Go.Proofs.YtghbhajiddnmkaaDoor
set_option linter.unusedSimpArgs false
set_option linter.unusedVariables false
open Go.RowKit

theorem refForm_any (d : Dep) : FormOk d := by
  induction d using Dep.ind with
  | h k n o e xs ih =>
    by_cases hk : k = 1
    · subst hk; exact refForm_leaf n o e xs
    · exact refForm_node k n o e xs hk ih
set_option maxHeartbeats 1000000 in
set_option maxRecDepth 100000 in
theorem refCheckD_any (d : Dep) (s : Value) (S : Nat → Prop) (w : World) (hL : Lay w S d s) (hsm : small d) (hN : nodes d ≤ 4194304) : Calls Tryd.prog 24 #[.agg (rowD d s)] w fun e w' => e = .returned (.int .i64 (checkN d)) ∧ Below w.heap.size w w' := by
  obtain ⟨A, c, rfl, _, _⟩ := hL.form_
  obtain ⟨w1, hw1⟩ : ∃ w1, w1 = w.alloc (.cells (rowD d (.slice A d.args.length c)) 25) := ⟨_, rfl⟩
  have hB1 : Below w.heap.size w w1 := by rw [hw1]; exact (Below.refl _ _).alloc (Nat.le_refl _) _
  have K : Blk w1 w.heap.size 25 (rowD d (.slice A d.args.length c)) := by rw [hw1]; exact Blk.new _ _ _
  have hz : w1.heap.size = w.heap.size + 1 := by rw [hw1]; simp
  have hL1 := hL.stay (fun _ h => h) (StayS.below' hB1)
  have CF := Lib.hid (refForm_any d _ S w1 hL1 hsm)
  have CP : Hid (∀ w2, Below w1.heap.size w1 w2 → Blk w2 w.heap.size 25 (rowD d (.slice A d.args.length c)) ∧ Below w.heap.size w w2 ∧ Calls Tryd.prog 45 #[.agg (rowD d (.slice A d.args.length c))] w2 (fun e w' => e = .returned (.int .i64 (leaves d : Int)) ∧ Below w2.heap.size w2 w')) := fun w2 hb => ⟨K.below hb (by omega), hB1.trans (hb.mono (by omega)), refParts_any d _ S w2 (hL1.stay (fun _ h => h) (StayS.below' hb)) hN⟩
  obtain ⟨x, hx⟩ : ∃ x, Hid (x = form d) := ⟨_, rfl⟩
  rw [← hx.out] at CF
  obtain ⟨q, hq⟩ : ∃ q, Hid (q = checkN d) := ⟨_, rfl⟩
  rw [← hq.out]
  have HQ : Hid (q = if x = true then (if 16 < leaves d then 51 else 0) else 50) := by show _ = _; rw [hq.out, hx.out]; rfl
  have hlv : leaves d ≤ 4194304 := by have := leaves_nodes d; omega
  clear hL hsm hN hB1 K hz hL1 hx hq
  subst hw1
  unfold rowD at CF CP ⊢
  go_enter Tryd.func24, Tryd.ntmps24
  go_wp2_with fail
  refine CF.out.mono ?_
  rintro e w2 ⟨rfl, hb2⟩
  obtain ⟨K2, hB2, C2⟩ := CP.out w2 hb2
  have k0 := K2.cell 0
  have k1 := K2.cell 1
  have k2 := K2.cell 2
  have k3 := K2.cell 3
  have k4 := K2.cell 4
  simp at k0 k1 k2 k3 k4
  have HC2 := Lib.hid C2
  have HB2 := Lib.hid hB2
  clear K2 hB2 C2 hb2 CF CP
  cases x with
  | false =>
    have HV : Hid (q = 50) := HQ.out
    clear HQ HC2
    go_wp2_with fail
    go_ret
    exact ⟨by rw [HV.out]; rfl, HB2.out⟩
  | true =>
    have HQ2 : Hid (q = if 16 < leaves d then 51 else 0) := HQ.out
    clear HQ
    generalize leaves d = m at *
    go_wp2_with fail
    refine HC2.out.mono ?_
    rintro e w3 ⟨rfl, hb3⟩
    have HB3 : Hid (Below w.heap.size w w3) := HB2.out.trans (hb3.mono HB2.out.size)
    clear hb3 HC2 HB2
    by_cases hm : 16 < m
    · have HV : Hid (q = 51) := HQ2.out.trans (if_pos hm)
      have t : (16 : Int) < (m : Int) := by omega
      clear HQ2
      go_wp2_with fail
      go_ret
      exact ⟨by rw [HV.out]; rfl, HB3.out⟩
    · have HV : Hid (q = 0) := HQ2.out.trans (if_neg hm)
      have t : ¬ (16 : Int) < (m : Int) := by omega
      clear HQ2
      go_wp2_with fail
      go_ret
      exact ⟨by rw [HV.out]; rfl, HB3.out⟩

/-! How many parts, and how long, what is read. -/
section
variable {l : List Wd} {B : Nat}
def Fits (B : Nat) (rd : Nat → Option (Dep × Nat)) : Prop := ∀ n d n', rd n = some (d, n') → nodes d + n ≤ n' ∧ small d
theorem smalls_snoc {xs : List Dep} {x : Dep} (h : smalls xs) (hx : small x) : smalls (xs ++ [x]) := by
  induction xs with
  | nil => exact ⟨hx, trivial⟩
  | cons a r ih => exact ⟨h.1, ih h.2⟩
theorem leafR_fits (hW : ∀ n, (atW l n).length ≤ 2147483648) : Fits B (leafR l) := by
  intro n d n' h
  unfold leafR at h
  split at h
  · split at h
    · injection h with h; injection h with h1 h2; subst h1; subst h2
      exact ⟨by simp [leaf, nodes, nodesA] <;> omega, by show _ ∧ _ ∧ _; exact ⟨by have := hW n; rw [← size_len]; exact this, by show 0 ≤ _; omega, trivial⟩⟩
    · injection h with h; injection h with h1 h2; subst h1; subst h2
      exact ⟨by simp [leaf, nodes, nodesA] <;> omega, by show _ ∧ _ ∧ _; exact ⟨by have := hW n; rw [← size_len]; exact this, by have := hW (n + 2); rw [← size_len]; exact this, trivial⟩⟩
  · cases h
theorem loopR_fits {rd : Nat → Option (Dep × Nat)} {k : Wd} (hrd : Fits B rd) : ∀ (f : Nat) (xs : List Dep) (n : Nat) (ys : List Dep) (n2 : Nat), loopR rd l k f xs n = some (ys, n2) → smalls xs → nodesA ys + n ≤ nodesA xs + n2 ∧ smalls ys
  | 0, xs, n, ys, n2, h, hs => by
    injection h with h; injection h with h1 h2; subst h1; subst h2
    exact ⟨Nat.le_refl _, hs⟩
  | f + 1, xs, n, ys, n2, h, hs => by
    by_cases hat : atW l n = k
    · by_cases hm : (k = wIf ∨ k = wWithout) ∧ 1 < xs.length
      · rw [loopR_many hat hm] at h; cases h
      · cases hr : rd (n + 1) with
        | none => rw [loopR_none hat hm hr] at h; cases h
        | some q =>
          obtain ⟨x, n1⟩ := q
          rw [loopR_more hat hm hr] at h
          obtain ⟨h1, h2⟩ := hrd _ _ _ hr
          obtain ⟨h3, h4⟩ := loopR_fits hrd f _ _ _ _ h (smalls_snoc hs h2)
          rw [nodesA_append] at h3
          simp only [nodesA] at h3
          exact ⟨by omega, h4⟩
    · rw [loopR_out hat] at h
      injection h with h; injection h with h1 h2; subst h1; subst h2
      exact ⟨Nat.le_refl _, hs⟩
theorem closeR_fits {k : Wd} {xs : List Dep} {n n' : Nat} {d : Dep} (h : closeR l k xs n = some (d, n')) (hs : smalls xs) : nodes d + n ≤ nodesA xs + n' ∧ small d := by
  unfold closeR at h
  split at h
  · injection h with h; injection h with h1 h2; subst h1; subst h2
    exact ⟨by simp only [node, nodes]; omega, by show 0 ≤ 2147483648 ∧ 0 ≤ 2147483648 ∧ _; exact ⟨by omega, by omega, hs⟩⟩
  · cases h
theorem nodeR_fits {rd : Nat → Option (Dep × Nat)} (hrd : Fits B rd) : Fits B (nodeR rd l) := by
  intro n d n' h
  cases hr : rd (n + 1) with
  | none => rw [nodeR_none hr] at h; cases h
  | some q =>
    obtain ⟨first, n1⟩ := q
    obtain ⟨f1, f2⟩ := hrd _ _ _ hr
    by_cases hk : numW (atW l n1) = 0
    · rw [nodeR_nok hr hk] at h; cases h
    · rw [nodeR_some hr hk] at h
      cases hl : loopR rd l (atW l n1) (l.length + 1) [first] n1 with
      | none => rw [hl] at h; cases h
      | some q2 =>
        obtain ⟨xs, n2⟩ := q2
        rw [hl] at h
        obtain ⟨g1, g2⟩ := loopR_fits hrd _ _ _ _ _ hl ⟨f2, trivial⟩
        simp only [nodesA] at g1
        by_cases he : atW l n1 = wIf ∧ atW l n2 = wElse
        · cases hr2 : rd (n2 + 1) with
          | none => rw [afterR_elno he.1 he.2 hr2] at h; cases h
          | some q3 =>
            obtain ⟨x, n3⟩ := q3
            rw [afterR_else he.1 he.2 hr2] at h
            obtain ⟨e1, e2⟩ := hrd _ _ _ hr2
            obtain ⟨c1, c2⟩ := closeR_fits h (smalls_snoc g2 e2)
            rw [nodesA_append] at c1
            simp only [nodesA] at c1
            exact ⟨by omega, c2⟩
        · rw [afterR_plain he] at h
          obtain ⟨c1, c2⟩ := closeR_fits h g2
          exact ⟨by omega, c2⟩
theorem readR_fits (hW : ∀ n, (atW l n).length ≤ 2147483648) : ∀ deep, Fits B (readR l deep)
  | 0 => by
    intro n d n' h
    unfold readR at h
    split at h
    · cases h
    · exact leafR_fits (B := B) hW n d n' h
  | deep + 1 => by
    intro n d n' h
    unfold readR at h
    split at h
    · exact nodeR_fits (readR_fits hW deep) n d n' h
    · exact leafR_fits (B := B) hW n d n' h
end
theorem words_le : ∀ (m : Nat) (l : Wd), l.length ≤ m → ∀ x ∈ words l, x.length ≤ l.length := by
  intro m
  induction m with
  | zero =>
    intro l h x hx
    have : l = [] := List.eq_nil_of_length_eq_zero (by omega)
    subst this
    rw [words_nil] at hx
    cases hx
  | succ m ih =>
    intro l h x hx
    rw [← stream_cut] at hx
    by_cases hc : (cutW l).1 = []
    · rw [hc, stream_nil] at hx; cases hx
    · rw [stream_cons _ hc] at hx
      have hlt := cutW_lt hc
      rcases List.mem_cons.1 hx with rfl | hx
      · unfold cutW
        simp only [List.length_take]
        have := skipB_le l
        omega
      · have := ih _ (by omega) x hx
        omega

def outD (m : Nat) : Option (Dep × Nat) → Option Dep × Int
  | none => (none, 50)
  | some (d, n) => if n ≠ m then (none, 50) else if checkN d = 0 then (some d, 0) else (none, checkN d)
theorem refParseD_out (l : Wd) : refParseD l = outD (words l).length (readR (words l) (words l).length 0) := by
  unfold refParseD outD
  cases readR (words l) (words l).length 0 with
  | none => rfl
  | some q => rfl
/-- A text's dependency, or nothing with an error: what the reference answers. -/
def GotP (text : ByteArray) (w0 : World) (e : Ending) (w' : World) : Prop :=
  Below w0.heap.size w0 w' ∧ ((∃ d A c S, parseD text.data.toList = (some d, 0) ∧ e = .returned (.tuple #[.agg (rowD d (.slice A d.args.length c)), .int .i64 0]) ∧ Lay w' S d (.slice A d.args.length c)) ∨ (∃ n, parseD text.data.toList = (none, n) ∧ e = .returned (.tuple #[.agg #[.int .i64 0, .string ⟨#[]⟩, .int .i64 0, .string ⟨#[]⟩, .slice none 0 0], .int .i64 n])))
theorem GotP.bad {text : ByteArray} {w0 w' : World} {n : Int} (hb : Below w0.heap.size w0 w') (h : parseD text.data.toList = (none, n)) : GotP text w0 (.returned (.tuple #[.agg #[.int .i64 0, .string ⟨#[]⟩, .int .i64 0, .string ⟨#[]⟩, .slice none 0 0], .int .i64 n])) w' := ⟨hb, .inr ⟨n, h, rfl⟩⟩
set_option maxHeartbeats 4000000 in
set_option maxRecDepth 100000 in
theorem refParseD_any (text : ByteArray) (hs : text.size ≤ 4194304) (w0 : World) : Calls Tryd.prog 9 #[.string text] w0 (GotP text w0) := by
  have hb1 : Below w0.heap.size w0 (w0.alloc (.cells #[.int .i64 0, .string ⟨#[]⟩, .int .i64 0, .string ⟨#[]⟩, .slice none 0 0] 25)) := (Below.refl _ _).alloc (Nat.le_refl _) _
  have K1 : Blk (w0.alloc (.cells #[.int .i64 0, .string ⟨#[]⟩, .int .i64 0, .string ⟨#[]⟩, .slice none 0 0] 25)) w0.heap.size 25 #[.int .i64 0, .string ⟨#[]⟩, .int .i64 0, .string ⟨#[]⟩, .slice none 0 0] := Blk.new _ _ _
  have CW := Lib.hid (refWords_any text hs (w0.alloc (.cells #[.int .i64 0, .string ⟨#[]⟩, .int .i64 0, .string ⟨#[]⟩, .slice none 0 0] 25)))
  have HREF := Lib.hid (ref_parse text.data.toList)
  have HB1 := Lib.hid hb1
  have HK1 := Lib.hid K1
  clear hb1 K1
  go_enter Tryd.func9, Tryd.ntmps9
  go_wp2_with fail
  refine CW.out.mono ?_
  rintro e w2 ⟨v, ys, rfl, hW⟩
  obtain ⟨Av, cv, rfl, hcv, hcm⟩ := own_form' hW.own
  have hws : wl ys = words text.data.toList := by
    have := hW.all
    rw [List.drop_eq_nil_of_le (by rw [size_len]; omega), words_nil, List.append_nil] at this
    exact this.symm
  have hyl : ys.length ≤ 4194304 := by have := hW.few; omega
  have hysz : ∀ y ∈ ys, y.size ≤ 4194304 := fun y hy => by
    have h1 : y.data.toList ∈ words text.data.toList := by rw [← hws]; exact List.mem_map_of_mem hy
    have h2 := words_le _ _ (Nat.le_refl _) _ h1
    rw [size_len, size_len] at h2
    omega
  have hrow : RowW w2 Av ys := fun k y hk => by
    have h1 : (ys.map Value.string)[k]? = some (.string y) := by rw [List.getElem?_map, hk]; rfl
    obtain ⟨b, rfl, hc⟩ := own_at_ hW.own h1
    exact ⟨b, rfl, cell_lt hc, hc⟩
  have C2 := Lib.hid (refRead_any ys hyl hysz ys.length hyl 0 Av cv w2 (Nat.zero_le _) hrow)
  have HB2 : Hid (Below w0.heap.size w0 w2) := HB1.out.trans (hW.below.mono (by simp))
  have HK2 : Hid (Blk w2 w0.heap.size 25 #[.int .i64 0, .string ⟨#[]⟩, .int .i64 0, .string ⟨#[]⟩, .slice none 0 0]) := HK1.out.below hW.below (by simp)
  have HLn : Hid ((words text.data.toList).length = ys.length) := by show _ = _; rw [← hws, wl_len]
  have hfit := readR_fits (l := wl ys) (B := 0) (fun n => by
    rw [← atS_w, size_len]
    unfold atS
    cases hh : ys[n]? with
    | none => exact Nat.zero_le _
    | some y => have := hysz y (List.mem_of_getElem? hh); simp; omega) ys.length 0
  have HFit := Lib.hid hfit
  rw [show (((0 : Nat) : Int)) = 0 from rfl] at C2
  obtain ⟨rs, hrs⟩ : ∃ rs, Hid (rs = readR (wl ys) ys.length 0) := ⟨_, rfl⟩
  rw [← hrs.out] at C2
  have HPD : Hid (parseD text.data.toList = outD ys.length rs) := by
    show _ = _
    rw [← HREF.out, refParseD_out, HLn.out, ← hws, ← hrs.out]
  clear hW hws hysz hrow hfit CW HB1 HK1 HREF HLn hcv hcm
  go_wp2_with fail
  refine C2.out.mono ?_
  rintro e w3 hG
  cases rs with
  | none =>
    obtain ⟨hb3, rfl⟩ := hG.no
    have HV : Hid (parseD text.data.toList = (none, 50)) := HPD.out
    have hb03 : Below w0.heap.size w0 w3 := HB2.out.trans (hb3.mono HB2.out.size)
    have hk3 := HK2.out.below hb3 HK2.out.lt
    have hlt := hk3.lt
    have tn : ((-1 : Int) != (ys.length : Int)) = true := bne_iff_ne.2 (by omega)
    have tn' : ((-1 : Int) == (ys.length : Int)) = false := beq_eq_false_iff_ne.2 (by omega)
    have tn2 : ¬ (-1 : Int) = (ys.length : Int) := by omega
    have hz0 := below_five (hb03)
    have hz1 := hz0.alloc (o := .cells #[.int .i64 0, .string ⟨#[]⟩, .int .i64 0, .string ⟨#[]⟩, .slice none 0 0] 25) hz0.size
    have HP : Hid (GotP text w0 (.returned (.tuple #[.agg #[.int .i64 0, .string ⟨#[]⟩, .int .i64 0, .string ⟨#[]⟩, .slice none 0 0], .int .i64 50])) ((five w3 w0.heap.size zeroD (.slice none 0 0)).alloc (.cells #[.int .i64 0, .string ⟨#[]⟩, .int .i64 0, .string ⟨#[]⟩, .slice none 0 0] 25))) := GotP.bad hz1 (HV.out)
    have HBk : Hid (Blk w3 w0.heap.size 25 #[.int .i64 0, .string ⟨#[]⟩, .int .i64 0, .string ⟨#[]⟩, .slice none 0 0]) := hk3
    have zc0 := HBk.out.cell 0
    have zc1 := HBk.out.cell 1
    have zc2 := HBk.out.cell 2
    have zc3 := HBk.out.cell 3
    have zc4 := HBk.out.cell 4
    have fzc0 := HBk.out.free 0
    have fzc1 := HBk.out.free 1
    have fzc2 := HBk.out.free 2
    have fzc3 := HBk.out.free 3
    have fzc4 := HBk.out.free 4
    simp at zc0 zc1 zc2 zc3 zc4
    have HL : Hid _ := load5 ((five_blk HBk.out zeroD (.slice none 0 0)).alloc (.cells #[.int .i64 0, .string ⟨#[]⟩, .int .i64 0, .string ⟨#[]⟩, .slice none 0 0] 25))
    clear HBk hz0 hz1
    unfold five zeroD at HP HL
    dsimp only [Dep.kind, Dep.name, Dep.op, Dep.evr] at HP HL
    clear hG hb3 hb03 hk3 HV HPD C2 HB2 HK2
    go_wp2_with fail
    refine bodyPost_ret (v := .tuple #[.agg #[.int .i64 0, .string ⟨#[]⟩, .int .i64 0, .string ⟨#[]⟩, .slice none 0 0], .int .i64 50]) ?_ rfl HP.out
    exact results_cell2 rfl _ rfl rfl HL.out
  | some q =>
    obtain ⟨d, n⟩ := q
    obtain ⟨hb3, Ad, cd, Sd, rfl, hL3, hC3, hS3⟩ := hG.yes
    have hb03 : Below w0.heap.size w0 w3 := HB2.out.trans (hb3.mono HB2.out.size)
    have hk3 := HK2.out.below hb3 HK2.out.lt
    have hlt := hk3.lt
    obtain ⟨hfn, hfs⟩ := HFit.out d n hrs.out.symm
    by_cases hn : n = ys.length
    · have tn : ((n : Int) != (ys.length : Int)) = false := by rw [hn]; simp
      have tn' : ((n : Int) == (ys.length : Int)) = true := by rw [hn]; simp
      have tn2 : (n : Int) = (ys.length : Int) := by omega
      have HPD2 : Hid (parseD text.data.toList = if checkN d = 0 then (some d, 0) else (none, checkN d)) := by
        have := HPD.out
        unfold outD at this
        simp only at this
        rwa [if_neg (fun h => h hn)] at this
      have hbv : Below w3.heap.size w3 (w3.alloc (.cells (rowD d (.slice Ad d.args.length cd)) 25)) := (Below.refl _ _).alloc (Nat.le_refl _) _
      have hLv := hL3.stay (fun _ h => h) (StayS.below' hbv)
      have CC := Lib.hid (refCheckD_any d _ Sd _ hLv hfs (by omega))
      have HKv : Hid (∀ w4, Below (w3.alloc (.cells (rowD d (.slice Ad d.args.length cd)) 25)).heap.size (w3.alloc (.cells (rowD d (.slice Ad d.args.length cd)) 25)) w4 → Blk w4 w3.heap.size 25 (rowD d (.slice Ad d.args.length cd)) ∧ Blk w4 w0.heap.size 25 #[.int .i64 0, .string ⟨#[]⟩, .int .i64 0, .string ⟨#[]⟩, .slice none 0 0] ∧ Below w0.heap.size w0 w4 ∧ Lay w4 Sd d (.slice Ad d.args.length cd)) := fun w4 hb => ⟨(Blk.new w3 _ _).below hb (by simp), (hk3.alloc _).below hb (by simp; omega), (hb03.trans (hbv.mono hb03.size)).trans (hb.mono (by have := hb03.size; simp; omega)), hLv.stay (fun _ h => h) (StayS.below' hb)⟩
      have HS3 : Hid (∀ b, Sd b → w0.heap.size < b) := fun b hb => by have h1 := hS3 b hb; have h2 := HK2.out.lt; omega
      clear hG hb3 hb03 hk3 hL3 hC3 hS3 hbv hLv HPD C2 HB2 HK2 hfs hfn hn
      unfold rowD at CC HKv ⊢
      go_wp2_with fail
      refine CC.out.mono ?_
      rintro e w4 ⟨rfl, hb4⟩
      obtain ⟨k4, z4, b4, l4⟩ := HKv.out w4 hb4
      clear hb4 CC HKv
      by_cases hc : checkN d = 0
      · have HV : Hid (parseD text.data.toList = (some d, 0)) := HPD2.out.trans (if_pos hc)
        have tc : (checkN d != 0) = false := by rw [hc]; rfl
        have HP : Hid (GotP text w0 (.returned (.tuple #[.agg #[.int .i64 d.kind, .string d.name, .int .i64 d.op, .string d.evr, .slice Ad d.args.length cd], .int .i64 0])) (five w4 w0.heap.size d (.slice Ad d.args.length cd))) := by
          have ht := five_turned w4 w0.heap.size d (.slice Ad d.args.length cd)
          exact ⟨b4.trans (ht.below (fun k hk => by simp at hk; omega) b4.size), .inl ⟨d, Ad, cd, Sd, HV.out, rfl, l4.stay (fun _ h => h) (StayS.turned ht fun b hb hm => by have := HS3.out b hb; simp at hm; omega)⟩⟩
        have HL : Hid _ := load5 (five_blk z4 d (.slice Ad d.args.length cd))
        have kc0 := k4.cell 0
        have kc1 := k4.cell 1
        have kc2 := k4.cell 2
        have kc3 := k4.cell 3
        have kc4 := k4.cell 4
        simp at kc0 kc1 kc2 kc3 kc4
        have zc0 := z4.cell 0
        have zc1 := z4.cell 1
        have zc2 := z4.cell 2
        have zc3 := z4.cell 3
        have zc4 := z4.cell 4
        have fzc0 := z4.free 0
        have fzc1 := z4.free 1
        have fzc2 := z4.free 2
        have fzc3 := z4.free 3
        have fzc4 := z4.free 4
        simp at zc0 zc1 zc2 zc3 zc4
        clear k4 z4 b4 l4 HV HPD2 HS3 hc
        unfold five at HP HL
        go_wp2_with fail
        refine bodyPost_ret (v := .tuple #[.agg #[.int .i64 d.kind, .string d.name, .int .i64 d.op, .string d.evr, .slice Ad d.args.length cd], .int .i64 0]) ?_ rfl HP.out
        exact results_cell2 rfl _ rfl rfl HL.out
      · have HV : Hid (parseD text.data.toList = (none, checkN d)) := HPD2.out.trans (if_neg hc)
        have tc : (checkN d != 0) = true := bne_iff_ne.2 hc
        have tc' : (checkN d == 0) = false := beq_eq_false_iff_ne.2 hc
        have hz0 := below_five (b4)
        have HP : Hid (GotP text w0 (.returned (.tuple #[.agg #[.int .i64 0, .string ⟨#[]⟩, .int .i64 0, .string ⟨#[]⟩, .slice none 0 0], .int .i64 (checkN d)])) (five w4 w0.heap.size zeroD (.slice none 0 0))) := GotP.bad hz0 (HV.out)
        have HBk : Hid (Blk w4 w0.heap.size 25 #[.int .i64 0, .string ⟨#[]⟩, .int .i64 0, .string ⟨#[]⟩, .slice none 0 0]) := z4
        have zc0 := HBk.out.cell 0
        have zc1 := HBk.out.cell 1
        have zc2 := HBk.out.cell 2
        have zc3 := HBk.out.cell 3
        have zc4 := HBk.out.cell 4
        have fzc0 := HBk.out.free 0
        have fzc1 := HBk.out.free 1
        have fzc2 := HBk.out.free 2
        have fzc3 := HBk.out.free 3
        have fzc4 := HBk.out.free 4
        simp at zc0 zc1 zc2 zc3 zc4
        have HL : Hid _ := load5 (five_blk HBk.out zeroD (.slice none 0 0))
        clear HBk hz0
        unfold five zeroD at HP HL
        dsimp only [Dep.kind, Dep.name, Dep.op, Dep.evr] at HP HL
        clear k4 z4 b4 l4 HV HPD2 HS3 hc
        go_wp2_with fail
        refine bodyPost_ret (v := .tuple #[.agg #[.int .i64 0, .string ⟨#[]⟩, .int .i64 0, .string ⟨#[]⟩, .slice none 0 0], .int .i64 (checkN d)]) ?_ rfl HP.out
        exact results_cell2 rfl _ rfl rfl HL.out
    · have HV : Hid (parseD text.data.toList = (none, 50)) := by
        have := HPD.out
        unfold outD at this
        simp only at this
        rwa [if_pos hn] at this
      have tn : ((n : Int) != (ys.length : Int)) = true := bne_iff_ne.2 (by omega)
      have tn' : ((n : Int) == (ys.length : Int)) = false := beq_eq_false_iff_ne.2 (by omega)
      have tn2 : ¬ (n : Int) = (ys.length : Int) := by omega
      have hz0 := below_five (hb03)
      have hz1 := hz0.alloc (o := .cells #[.int .i64 d.kind, .string d.name, .int .i64 d.op, .string d.evr, .slice Ad d.args.length cd] 25) hz0.size
      have HP : Hid (GotP text w0 (.returned (.tuple #[.agg #[.int .i64 0, .string ⟨#[]⟩, .int .i64 0, .string ⟨#[]⟩, .slice none 0 0], .int .i64 50])) ((five w3 w0.heap.size zeroD (.slice none 0 0)).alloc (.cells #[.int .i64 d.kind, .string d.name, .int .i64 d.op, .string d.evr, .slice Ad d.args.length cd] 25))) := GotP.bad hz1 (HV.out)
      have HBk : Hid (Blk w3 w0.heap.size 25 #[.int .i64 0, .string ⟨#[]⟩, .int .i64 0, .string ⟨#[]⟩, .slice none 0 0]) := hk3
      have zc0 := HBk.out.cell 0
      have zc1 := HBk.out.cell 1
      have zc2 := HBk.out.cell 2
      have zc3 := HBk.out.cell 3
      have zc4 := HBk.out.cell 4
      have fzc0 := HBk.out.free 0
      have fzc1 := HBk.out.free 1
      have fzc2 := HBk.out.free 2
      have fzc3 := HBk.out.free 3
      have fzc4 := HBk.out.free 4
      simp at zc0 zc1 zc2 zc3 zc4
      have HL : Hid _ := load5 ((five_blk HBk.out zeroD (.slice none 0 0)).alloc (.cells #[.int .i64 d.kind, .string d.name, .int .i64 d.op, .string d.evr, .slice Ad d.args.length cd] 25))
      clear HBk hz0 hz1
      unfold five zeroD at HP HL
      dsimp only [Dep.kind, Dep.name, Dep.op, Dep.evr] at HP HL
      clear hG hb3 hb03 hk3 hL3 hC3 hS3 HV HPD C2 HB2 HK2 hfs hfn hn
      unfold rowD
      go_wp2_with fail
      refine bodyPost_ret (v := .tuple #[.agg #[.int .i64 0, .string ⟨#[]⟩, .int .i64 0, .string ⟨#[]⟩, .slice none 0 0], .int .i64 50]) ?_ rfl HP.out
      exact results_cell2 rfl _ rfl rfl HL.out
end Go.Proofs.YtghbhajiddnmkaaDoor
