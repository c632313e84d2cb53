/- The reference's texts of dependencies. -/
import Derived.Test.YtghbhajiddnmkaaGreatDoorDPrinted
import Derived.Test.YtghbhajiddnmkaaGreatDoorDRefA
import Derived.Test.YtghbhajiddnmkaaGreatDoorPhase
namespace Go.Proofs.YtghbhajiddnmkaaGreatDoor
set_option linter.unusedSimpArgs false
set_option linter.unusedVariables false
open Go.RowKit

set_option maxHeartbeats 1000000 in
set_option maxRecDepth 100000 in
theorem refSgn_any (m : Nat) (h1 : 1 ≤ m) (h7 : m ≤ 7) (w : World) : Calls Tryz.prog 33 #[.int .i64 (m : Int)] w fun e w' => e = .returned (.string (mkS (signT (m : Int)))) ∧ Below w.heap.size w w' := by
  have hm : m = 1 ∨ m = 2 ∨ m = 3 ∨ m = 4 ∨ m = 5 ∨ m = 6 ∨ m = 7 := by omega
  have HB : Hid (∀ cs t, Below w.heap.size w (w.alloc (.cells cs t))) := fun cs t => (Below.refl _ _).alloc (Nat.le_refl _) _
  rcases hm with rfl | rfl | rfl | rfl | rfl | rfl | rfl
  all_goals
    clear h1 h7
    go_enter Tryz.func33, Tryz.ntmps33
    go_wp2_with fail
    go_ret
    exact ⟨rfl, HB.out _ _⟩
set_option maxHeartbeats 1000000 in
set_option maxRecDepth 100000 in
theorem refBtw_any (k : Int) (n : Nat) (h2 : 2 ≤ k) (h6 : k ≤ 6) (hn : 1 ≤ n) (h4 : k = 4 → n ≤ 2) (w : World) : Calls Tryz.prog 34 #[.int .i64 k, .int .i64 (n : Int)] w fun e w' => e = .returned (.string (mkS (sepT k n))) ∧ w = w' := by
  have hk : k = 2 ∨ k = 3 ∨ k = 5 ∨ k = 6 ∨ (k = 4 ∧ n = 1) ∨ (k = 4 ∧ n = 2) := by
    have hk : k = 2 ∨ k = 3 ∨ k = 4 ∨ k = 5 ∨ k = 6 := by omega
    rcases hk with h | h | h | h | h
    · exact .inl h
    · exact .inr (.inl h)
    · have := h4 h
      have : n = 1 ∨ n = 2 := by omega
      rcases this with h' | h'
      · exact .inr (.inr (.inr (.inr (.inl ⟨h, h'⟩))))
      · exact .inr (.inr (.inr (.inr (.inr ⟨h, h'⟩))))
    · exact .inr (.inr (.inl h))
    · exact .inr (.inr (.inr (.inl h)))
  have hsp : sepT k n = 32 :: btw k n ++ [32] := by unfold sepT; rw [if_neg (by omega)]
  have HV : Hid (mkS (sepT k n) = mkS (32 :: btw k n ++ [32])) := by show _ = _; rw [hsp]
  clear hsp h2 h6 h4
  rcases hk with rfl | rfl | rfl | rfl | ⟨rfl, rfl⟩ | ⟨rfl, rfl⟩
  all_goals
    clear hn
    go_enter Tryz.func34, Tryz.ntmps34
    go_wp2_with fail
    go_ret
    exact ⟨by rw [HV.out]; rfl, rfl⟩
def RTextOk (d : Dep) : Prop := ∀ (s : Value) (S : Nat → Prop) (w : World), Lay w S d s → (text d).length ≤ 1099511627776 → Calls Tryz.prog 17 #[.agg (rowD d s)] w fun e w' => e = .returned (.string (mkS (text d))) ∧ Below w.heap.size w w'
theorem add5 (a b c : ByteArray) : (a ++ ⟨#[32]⟩ ++ b ++ ⟨#[32]⟩ ++ c : ByteArray).data.toList = a.data.toList ++ (32 :: b.data.toList ++ 32 :: c.data.toList) := by simp [ByteArray.data_append]
set_option maxHeartbeats 2000000 in
set_option maxRecDepth 100000 in
theorem refText_leaf (n : ByteArray) (o : Int) (ev : ByteArray) (hf : form (.mk 1 n o ev []) = true) : RTextOk (.mk 1 n o ev []) := by
  intro s S w hL hlen
  obtain ⟨A, c, rfl, _, _⟩ := hL.form_
  obtain ⟨hn, hcmp, _⟩ := may_leaf (form_may hf) rfl
  have hnl : n.size ≤ 60 := by have := (name_ne hn).2.2.2.1; rwa [size_len] at this
  obtain ⟨T, hT⟩ : ∃ T, Hid (T = mkS (text (.mk 1 n o ev []))) := ⟨_, rfl⟩
  rw [← hT.out]
  have HT : Hid (T = mkS (n.data.toList ++ (if o = 0 then [] else 32 :: signT o ++ 32 :: ev.data.toList))) := by show _ = _; rw [hT.out, text_leafT]
  have HB : Hid (Below w.heap.size w (w.alloc (.cells #[.int .i64 1, .string n, .int .i64 o, .string ev, .slice A 0 c] 24))) := (Below.refl _ _).alloc (Nat.le_refl _) _
  rw [show (Dep.mk 1 n o ev []).args.length = 0 from rfl] at *
  unfold rowD
  simp only [Dep.kind, Dep.name, Dep.op, Dep.evr]
  clear hL hf hlen hT
  rcases mayCmp_cases hcmp with ⟨rfl, he⟩ | ⟨h1, h7, he⟩
  · have HV : Hid (T = n) := by show _ = _; rw [HT.out, if_pos rfl, List.append_nil]; rfl
    clear he hcmp hn HT
    go_enter Tryz.func17, Tryz.ntmps17
    go_wp2_with fail
    go_ret
    exact ⟨by rw [HV.out]; rfl, HB.out⟩
  · obtain ⟨m, rfl⟩ : ∃ m : Nat, o = (m : Int) := ⟨o.toNat, by omega⟩
    have hm1 : 1 ≤ m := by omega
    have hm7 : m ≤ 7 := by omega
    have t0 : (((m : Nat) : Int) == 0) = false := beq_eq_false_iff_ne.2 (by omega)
    have t1 : ¬ ((m : Nat) : Int) = 0 := by omega
    have CS := Lib.hid (fun w => refSgn_any m hm1 hm7 w)
    obtain ⟨sg, hsg⟩ : ∃ sg, Hid (sg = mkS (signT (m : Int))) := ⟨_, rfl⟩
    have hsz : sg.size ≤ 3 := by rw [hsg.out]; exact sign_size hm1 hm7
    rw [← hsg.out] at CS
    have hez : ev.size ≤ 60 := by have := (evr_may he).2.1; rwa [size_len] at this
    have HV : Hid (T = n ++ ⟨#[32]⟩ ++ sg ++ ⟨#[32]⟩ ++ ev) := by
      show _ = _
      rw [HT.out, if_neg t1, hsg.out]
      refine kdS_inj _ _ ?_
      unfold kdS
      rw [add5]
      rfl
    have K := Blk.new w 24 #[.int .i64 1, .string n, .int .i64 (m : Int), .string ev, .slice A 0 c]
    have c1 := K.cell 1
    have c2 := K.cell 2
    have c3 := K.cell 3
    simp at c1 c2 c3
    have HK := Lib.hid K
    have z1 : ¬ 9223372036854775807 < n.size + 1 := by omega
    have z2 : ¬ 9223372036854775807 < n.size + 1 + sg.size := by omega
    have z3 : ¬ 9223372036854775807 < n.size + 1 + sg.size + 1 := by omega
    have z4 : ¬ 9223372036854775807 < n.size + 1 + sg.size + 1 + ev.size := by omega
    clear he hcmp hn HT hm1 hm7 h1 h7 K hsg
    go_enter Tryz.func17, Tryz.ntmps17
    go_upto_region 4 with fail
    generalize hw1 : World.alloc w _ = w1 at HB HK c1 c2 c3 ⊢
    clear hw1
    have HF : Hid (∀ w2, Below w1.heap.size w1 w2 → w2.cell? ⟨w.heap.size, 1, none⟩ = some (.string n) ∧ w2.cell? ⟨w.heap.size, 2, none⟩ = some (.int .i64 (m : Int)) ∧ w2.cell? ⟨w.heap.size, 3, none⟩ = some (.string ev) ∧ Below w.heap.size w w2) := fun w2 hb => by
      have K2 := HK.out.below hb HK.out.lt
      have k1 := K2.cell 1
      have k2 := K2.cell 2
      have k3 := K2.cell 3
      simp at k1 k2 k3
      exact ⟨k1, k2, k3, HB.out.trans (hb.mono HB.out.size)⟩
    clear HK c1 c2 c3
    rename_i K hK
    refine wp_region_S (fun _ w' => Below w1.heap.size w1 w') (by kernel_rfl) (Below.refl _ _).drew (fun hS => ?_)
    refine wpAnyS_take (i := 0) (fun _ => True) (v := .pointer (some ⟨w.heap.size, 1, none⟩)) rfl (by kernel_rfl) (by kernel_rfl) (by kernel_rfl) (fun _ _ _ h => h) (fun _ _ _ _ => trivial) (fun _ _ => Iff.rfl) (by kernel_rfl) hS (fun w' hSw => ?_) (by rfl) (fun hS => ?_)
    · go_simp
    try simp only [Act.put, List.setIfInBounds_toArray, List.set_cons_zero, List.set_cons_succ]
    refine wpAnyS_take (i := 1) (fun w' => w'.cell? ⟨w.heap.size, 1, none⟩ = some (.string n)) (v := .string n) rfl (by kernel_rfl) (by kernel_rfl) (by kernel_rfl) (fun _ _ _ h => h) (fun l w hw hS => (HF.out _ hS).1) (fun _ _ => Iff.rfl) (by kernel_rfl) hS (fun w' hSw => ?_) (by rfl) (fun hS => ?_)
    · go_simp
    try simp only [Act.put, List.setIfInBounds_toArray, List.set_cons_zero, List.set_cons_succ]
    refine wpAnyS_take (i := 2) (fun _ => True) (v := .string (n ++ ⟨#[32]⟩)) rfl (by kernel_rfl) (by kernel_rfl) (by kernel_rfl) (fun _ _ _ h => h) (fun _ _ _ _ => trivial) (fun _ _ => Iff.rfl) (by kernel_rfl) hS (fun w' hSw => ?_) (by rfl) (fun hS => ?_)
    · go_simp
    try simp only [Act.put, List.setIfInBounds_toArray, List.set_cons_zero, List.set_cons_succ]
    refine wpAnyS_take (i := 3) (fun _ => True) (v := .pointer (some ⟨w.heap.size, 2, none⟩)) rfl (by kernel_rfl) (by kernel_rfl) (by kernel_rfl) (fun _ _ _ h => h) (fun _ _ _ _ => trivial) (fun _ _ => Iff.rfl) (by kernel_rfl) hS (fun w' hSw => ?_) (by rfl) (fun hS => ?_)
    · go_simp
    try simp only [Act.put, List.setIfInBounds_toArray, List.set_cons_zero, List.set_cons_succ]
    refine wpAnyS_take (i := 4) (fun w' => w'.cell? ⟨w.heap.size, 2, none⟩ = some (.int .i64 (m : Int))) (v := .int .i64 (m : Int)) rfl (by kernel_rfl) (by kernel_rfl) (by kernel_rfl) (fun _ _ _ h => h) (fun l w hw hS => (HF.out _ hS).2.1) (fun _ _ => Iff.rfl) (by kernel_rfl) hS (fun w' hSw => ?_) (by rfl) (fun hS => ?_)
    · go_simp
    try simp only [Act.put, List.setIfInBounds_toArray, List.set_cons_zero, List.set_cons_succ]
    refine wpAnyS_take (i := 8) (fun _ => True) (v := .pointer (some ⟨w.heap.size, 3, none⟩)) rfl (by kernel_rfl) (by kernel_rfl) (by kernel_rfl) (fun _ _ _ h => h) (fun _ _ _ _ => trivial) (fun _ _ => Iff.rfl) (by kernel_rfl) hS (fun w' hSw => ?_) (by rfl) (fun hS => ?_)
    · go_simp
    try simp only [Act.put, List.setIfInBounds_toArray, List.set_cons_zero, List.set_cons_succ]
    refine wpAnyS_take (i := 9) (fun w' => w'.cell? ⟨w.heap.size, 3, none⟩ = some (.string ev)) (v := .string ev) rfl (by kernel_rfl) (by kernel_rfl) (by kernel_rfl) (fun _ _ _ h => h) (fun l w hw hS => (HF.out _ hS).2.2.1) (fun _ _ => Iff.rfl) (by kernel_rfl) hS (fun w' hSw => ?_) (by rfl) (fun hS => ?_)
    · go_simp
    try simp only [Act.put, List.setIfInBounds_toArray, List.set_cons_zero, List.set_cons_succ]
    refine wpAnyS_one (i := 5) (by kernel_rfl) rfl (fun K7 hK7 => ?_)
    go_simp
    refine (CS.out _).mono ?_
    rintro e w2 ⟨rfl, hb2⟩
    have hbw : Below w1.heap.size w1 w2 := hS.trans (hb2.mono hS.size)
    refine hK7.out _ _ hbw (fun hS => ?_)
    clear hK7 K7
    try simp only [Act.put, List.setIfInBounds_toArray, List.set_cons_zero, List.set_cons_succ]
    refine wpAnyS_take (i := 6) (fun _ => True) (v := .string (n ++ ⟨#[32]⟩ ++ sg)) rfl (by kernel_rfl) (by kernel_rfl) (by kernel_rfl) (fun _ _ _ h => h) (fun _ _ _ _ => trivial) (fun _ _ => Iff.rfl) (by kernel_rfl) hS (fun w' hSw => ?_) (by rfl) (fun hS => ?_)
    · go_simp
    try simp only [Act.put, List.setIfInBounds_toArray, List.set_cons_zero, List.set_cons_succ]
    refine wpAnyS_take (i := 7) (fun _ => True) (v := .string (n ++ ⟨#[32]⟩ ++ sg ++ ⟨#[32]⟩)) rfl (by kernel_rfl) (by kernel_rfl) (by kernel_rfl) (fun _ _ _ h => h) (fun _ _ _ _ => trivial) (fun _ _ => Iff.rfl) (by kernel_rfl) hS (fun w' hSw => ?_) (by rfl) (fun hS => ?_)
    · go_simp
    try simp only [Act.put, List.setIfInBounds_toArray, List.set_cons_zero, List.set_cons_succ]
    refine wpAnyS_take (i := 10) (fun _ => True) (v := .string (n ++ ⟨#[32]⟩ ++ sg ++ ⟨#[32]⟩ ++ ev)) rfl (by kernel_rfl) (by kernel_rfl) (by kernel_rfl) (fun _ _ _ h => h) (fun _ _ _ _ => trivial) (fun _ _ => Iff.rfl) (by kernel_rfl) hS (fun w' hSw => ?_) (by rfl) (fun hS => ?_)
    · go_simp
    try simp only [Act.put, List.setIfInBounds_toArray, List.set_cons_zero, List.set_cons_succ]
    refine wpAnyS_take (i := 11) (fun _ => True) (v := .string (n ++ ⟨#[32]⟩ ++ sg ++ ⟨#[32]⟩ ++ ev)) rfl (by kernel_rfl) (by kernel_rfl) (by kernel_rfl) (fun _ _ _ h => h) (fun _ _ _ _ => trivial) (fun _ _ => Iff.rfl) (by kernel_rfl) hS (fun w' hSw => ?_) (by rfl) (fun hS => ?_)
    · go_simp
    try simp only [Act.put, List.setIfInBounds_toArray, List.set_cons_zero, List.set_cons_succ]
    refine wpAnyS_done (by kernel_rfl) ?_ _
    have HP := Lib.hid (HF.out _ hbw).2.2.2
    clear hS hbw hb2
    refine hK _ _ ?_
    clear hK
    go_wp2_with fail
    go_ret
    exact ⟨by rw [HV.out]; rfl, HP.out⟩
set_option maxHeartbeats 2000000 in
set_option maxRecDepth 100000 in
theorem refText_node (d : Dep) (hf : form d = true) (hk : d.kind ≠ 1) (ih : ∀ a ∈ d.args, RTextOk a) : RTextOk d := by
  intro s S w hL hlen
  obtain ⟨A, c, rfl, hc1, hc2, hA⟩ := hL.args_
  have hargs : numArgs d.kind d.args = true := by
    obtain ⟨k, n, o, e, xs⟩ := d
    exact (may_node (form_may hf) hk).2.2.2
  obtain ⟨hk2, hk6, hn2, hk4, _⟩ := args_kind hargs
  obtain ⟨w1, hw1⟩ : ∃ w1, w1 = w.alloc (.cells (rowD d (.slice A d.args.length c)) 24) := ⟨_, rfl⟩
  have hB1 : Below w.heap.size w w1 := by rw [hw1]; exact (Below.refl _ _).alloc (Nat.le_refl _) _
  have K : Blk w1 w.heap.size 24 (rowD d (.slice A d.args.length c)) := by rw [hw1]; exact Blk.new _ _ _
  have hz1 : w1.heap.size = w.heap.size + 1 := by rw [hw1]; simp
  have hA1 : ArgsAt w1 S d.args A := hA.stay (fun _ h => h) (StayS.below' hB1)
  have HF : Hid (∀ wx, Below w1.heap.size w1 wx → Blk wx w.heap.size 24 (rowD d (.slice A d.args.length c)) ∧ ArgsAt wx S d.args A ∧ Below w.heap.size w wx) := fun wx hb => ⟨K.below hb (by omega), hA1.stay (fun _ h => h) (StayS.below' hb), hB1.trans (hb.mono (by omega))⟩
  have HIH := Lib.hid ih
  obtain ⟨R, HR⟩ : ∃ R : World → Prop, Hid (∀ wx, R wx ↔ Below w1.heap.size w1 wx) := ⟨fun wx => Below w1.heap.size w1 wx, fun _ => Iff.rfl⟩
  have HR0 : Hid (R w1) := (HR.out _).2 (Below.refl _ _)
  obtain ⟨T, hT⟩ : ∃ T, Hid (T = mkS (text d)) := ⟨_, rfl⟩
  rw [← hT.out]
  have HT : Hid (T = mkS (pre d d.args.length ++ [41])) := by show _ = _; rw [hT.out, text_pre hk]
  have HPre := Lib.hid (pre_le hk)
  have HLen := Lib.hid hlen
  have HStep : Hid (∀ j a, d.args[j]? = some a → pre d (j + 1) = pre d j ++ (sepT d.kind j ++ text a)) := fun j a h => pre_succ h
  have HSepL : Hid (∀ j, (sepT d.kind j).length ≤ 9) := fun j => by
    show _ ≤ _
    unfold sepT
    split
    · simp
    · have := btw_size (n := j) hk2 hk6
      rw [← size_len] at this
      simp only [List.length_cons, List.length_append, List.length_nil]
      have e : (mkS (btw d.kind j)).data.toList = btw d.kind j := rfl
      rw [e] at this
      omega
  have t1 : (d.kind == 1) = false := beq_eq_false_iff_ne.2 hk
  have hnl : d.args.length ≤ 9223372036854775807 := by unfold maxLen at hc2; omega
  have HK4 := Lib.hid hk4
  clear hL hf hA hargs hB1 K hA1 hz1 hT ih hlen hk hc2 hk4
  subst hw1
  unfold rowD at HR HR0 HF ⊢
  go_enter Tryz.func17, Tryz.ntmps17
  go_wp2_with fail
  go_loopw [3, 4] (fun v3 v4 wx => ∃ (k : Nat) (out : ByteArray), k ≤ d.args.length ∧ v4 = .int .i64 (k : Int) ∧ v3 = .string out ∧ Hid (out.data.toList = pre d k) ∧ Hid (R wx)) (fun _ v4 _ => d.args.length - (intOf v4).toNat)
  case atStart => exact ⟨0, ⟨#[40]⟩, Nat.zero_le _, rfl, rfl, rfl, HR0⟩
  case round =>
    clear HR0
    obtain ⟨k, out, hkn, rfl, rfl, hout, HRr⟩ := hrel
    obtain ⟨Kr, hAr, hBr⟩ := HF.out wr ((HR.out _).1 HRr.out)
    have c0 := Kr.cell 0
    have c4 := Kr.cell 4
    simp at c0 c4
    have hos : out.size ≤ 1099511627776 := by
      have h1 := HPre.out k
      have h2 := HLen.out
      rw [← size_len, hout.out]
      omega
    by_cases hlt : k < d.args.length
    · obtain ⟨a, ha⟩ : ∃ a, d.args[k]? = some a := ⟨_, List.getElem?_eq_getElem hlt⟩
      obtain ⟨b', o', t, hA', hSb, hC, hLa⟩ := hAr k a ha
      obtain ⟨At, ct, rfl, _, _⟩ := hLa.form_
      subst hA'
      obtain ⟨e0, e1, e2, e3, e4⟩ := hC
      have hst := HStep.out k a ha
      have htl : (text a).length ≤ 1099511627776 := by
        have h1 := HPre.out (k + 1)
        have h2 := HLen.out
        rw [hst] at h1
        simp only [List.length_append] at h1
        omega
      have CI := Lib.hid (HIH.out a (List.mem_of_getElem? ha) _ S wr hLa htl)
      obtain ⟨ta, hta⟩ : ∃ ta, Hid (ta = mkS (text a)) := ⟨_, rfl⟩
      have htz : ta.size ≤ 1099511627776 := by rw [hta.out, ← size_len]; exact htl
      rw [← hta.out] at CI
      have HRr2 : Hid (∀ w', Below wr.heap.size wr w' → R w') := fun w' hb => by
        have h1 := (HR.out _).1 HRr.out
        exact (HR.out _).2 (h1.trans (hb.mono h1.size))
      have HS := Lib.hid hst
      clear Kr hAr hBr hLa ha HRr hst htl
      unfold rowD at CI
      by_cases hk0 : k = 0
      · subst hk0
        simp only [Nat.zero_mul, Nat.add_zero] at e0 e1 e2 e3 e4
        have HN : Hid ((out ++ ta).data.toList = pre d 1) := by
          show _ = _
          rw [HS.out, hta.out]
          simp [ByteArray.data_append, hout.out, sepT]
          rfl
        clear HS hout
        go_wp2_with fail
        refine CI.out.mono ?_
        rintro e w5 ⟨rfl, hb5⟩
        have HR5 := Lib.hid (HRr2.out w5 hb5)
        clear hb5 CI HRr2
        go_wp2_with fail
        go_roundw
        case rel => exact ⟨1, out ++ ta, by omega, by go_num, rfl, HN, HR5⟩
        case measure => simp [intOf]; omega
      · have CB := Lib.hid (refBtw_any d.kind k hk2 hk6 (by omega) (fun h => by have := HK4.out h; omega) wr)
        obtain ⟨sp, hsp⟩ : ∃ sp, Hid (sp = mkS (sepT d.kind k)) := ⟨_, rfl⟩
        rw [← hsp.out] at CB
        have hspz : sp.size ≤ 9 := by rw [hsp.out, ← size_len]; exact HSepL.out k
        have hk1 : 0 < k := by omega
        have hkI : (0 : Int) < (k : Int) := by omega
        have HN : Hid ((out ++ sp ++ ta).data.toList = pre d (k + 1)) := by
          show _ = _
          rw [HS.out, hta.out, hsp.out]
          simp [ByteArray.data_append, hout.out]
          rfl
        clear HS hout hsp hta hk0
        go_wp2_with fail
        refine CB.out.mono ?_
        rintro e w3 ⟨rfl, rfl⟩
        clear CB
        go_wp2_with fail
        refine CI.out.mono ?_
        rintro e w5 ⟨rfl, hb5⟩
        have HR5 := Lib.hid (HRr2.out w5 hb5)
        clear hb5 CI HRr2
        go_wp2_with fail
        go_roundw
        case rel => exact ⟨k + 1, out ++ sp ++ ta, by omega, by go_num, rfl, HN, HR5⟩
        case measure => simp [intOf]; omega
    · have hkn : k = d.args.length := by omega
      subst hkn
      have HV : Hid (T = out ++ ⟨#[41]⟩) := by
        show _ = _
        rw [HT.out, ← hout.out]
        refine kdS_inj _ _ ?_
        unfold kdS
        simp [ByteArray.data_append]
        rfl
      have HB := Lib.hid hBr
      clear Kr hAr hBr hout HRr
      go_wp2_with fail
      go_ret
      exact ⟨by rw [HV.out]; rfl, HB.out⟩
theorem refText_any (d : Dep) : form d = true → RTextOk d := by
  induction d using Dep.ind with
  | h k n o e xs ih =>
    intro hf
    by_cases hk : k = 1
    · subst hk
      obtain ⟨_, _, rfl⟩ := may_leaf (form_may hf) rfl
      exact refText_leaf n o e hf
    · exact refText_node _ hf hk fun a ha => ih a ha (forms_mem (form_args hf) a ha)
end Go.Proofs.YtghbhajiddnmkaaGreatDoor
