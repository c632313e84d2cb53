/- The reference's Print; its names of a dependency; two lists of texts that are the same. -/
import Derived.Test.YtghbhajiddnmkaaGreatDoorDRText
import Derived.Test.YtghbhajiddnmkaaGreatDoorDRefI
import Derived.Test.YtghbhajiddnmkaaGreatDoorDPut
namespace Go.Proofs.YtghbhajiddnmkaaGreatDoor
set_option linter.unusedSimpArgs false
set_option linter.unusedVariables false
open Go.RowKit

set_option maxHeartbeats 1000000 in
set_option maxRecDepth 100000 in
theorem refPrint_any (d : Dep) (s : Value) (S : Nat → Prop) (w : World) (hL : Lay w S d s) (hsm : small d) (hN : nodes d ≤ 4194304) : Calls Tryz.prog 7 #[.agg (rowD d s)] w fun e w' => e = .returned (.tuple #[.string (printS d), .int .i64 (checkN d)]) ∧ Below w.heap.size w w' := by
  obtain ⟨A, c, rfl, _, _⟩ := hL.form_
  obtain ⟨w1, hw1⟩ : ∃ w1, w1 = w.alloc (.cells (rowD d (.slice A d.args.length c)) 24) := ⟨_, rfl⟩
  have hB1 : Below w.heap.size w w1 := by rw [hw1]; exact (Below.refl _ _).alloc (Nat.le_refl _) _
  have K : Blk w1 w.heap.size 24 (rowD d (.slice A d.args.length c)) := by rw [hw1]; exact Blk.new _ _ _
  have hz : w1.heap.size = w.heap.size + 1 := by rw [hw1]; simp
  have hL1 := hL.stay (fun _ h => h) (StayS.below' hB1)
  have CC := Lib.hid (refCheckD_any d _ S w1 hL1 hsm hN)
  have CT : Hid (∀ w2, Below w1.heap.size w1 w2 → Blk w2 w.heap.size 24 (rowD d (.slice A d.args.length c)) ∧ Below w.heap.size w w2 ∧ (checkN d = 0 → Calls Tryz.prog 17 #[.agg (rowD d (.slice A d.args.length c))] w2 (fun e w' => e = .returned (.string (mkS (text d))) ∧ Below w2.heap.size w2 w'))) := fun w2 hb => ⟨K.below hb (by omega), hB1.trans (hb.mono (by omega)), fun hc => refText_any d (check_form hc).1 _ S w2 (hL1.stay (fun _ h => h) (StayS.below' hb)) (by have := text_len d (check_form hc).1; omega)⟩
  clear hL hsm hN hB1 K hz hL1
  subst hw1
  unfold rowD at CC CT ⊢
  go_enter Tryz.func7, Tryz.ntmps7
  go_wp2_with fail
  refine CC.out.mono ?_
  rintro e w2 ⟨rfl, hb2⟩
  obtain ⟨K2, hB2, C2⟩ := CT.out w2 hb2
  have HB2 := Lib.hid hB2
  have k0 := K2.cell 0
  have k1 := K2.cell 1
  have k2 := K2.cell 2
  have k3 := K2.cell 3
  have k4 := K2.cell 4
  simp at k0 k1 k2 k3 k4
  by_cases hc : checkN d = 0
  · have tc : (checkN d != 0) = false := by rw [hc]; rfl
    have HC2 := Lib.hid (C2 hc)
    have HC := Lib.hid hc
    clear K2 hB2 C2 hb2 CC CT hc
    go_wp2_with fail
    refine HC2.out.mono ?_
    rintro e w3 ⟨rfl, hb3⟩
    have HB3 : Hid (Below w.heap.size w w3) := HB2.out.trans (hb3.mono HB2.out.size)
    clear hb3 HC2 HB2
    go_wp2_with fail
    go_ret2
    refine ⟨?_, HB3.out⟩
    unfold printS
    rw [if_pos HC.out, HC.out]
    rfl
  · have tc : (checkN d != 0) = true := bne_iff_ne.2 hc
    have HC := Lib.hid hc
    clear K2 hB2 C2 hb2 CC CT hc
    go_wp2_with fail
    go_ret2
    refine ⟨?_, HB2.out⟩
    unfold printS
    rw [if_neg HC.out]
    rfl
/-- Two lists of the same texts. -/
theorem sameTexts_yes (ls : List ByteArray) (A A' : Option Addr) (c c' : Nat) (w : World) (hl : ls.length ≤ 4194304) (hc : ls.length ≤ c) (hc' : ls.length ≤ c') (h : Rd w w.heap.size A (strV ls)) (h' : Rd w w.heap.size A' (strV ls)) :
    Calls Tryz.prog 9 #[.slice A ls.length c, .slice A' ls.length c'] w fun e w' => e = .returned (.bool true) ∧ Below w.heap.size w w' := by
  have HR := Lib.hid h
  have HR' := Lib.hid h'
  have H0 : Hid (∃ q, w = w.drewN q) := ⟨0, rfl⟩
  obtain ⟨R, hR⟩ : ∃ R : World → Prop, Hid (∀ wx, R wx ↔ ∃ q, wx = w.drewN q) := ⟨_, fun _ => Iff.rfl⟩
  have HR0 : Hid (R w) := (hR.out w).2 ⟨0, rfl⟩
  clear h h' H0
  go_enter Tryz.func9, Tryz.ntmps9
  go_wp2_with fail
  go_loopw [5] (fun v5 wx => ∃ (k : Nat), k ≤ ls.length ∧ v5 = .int .i64 (k : Int) ∧ Hid (R wx)) (fun v5 _ => ls.length - (intOf v5).toNat)
  case atStart => exact ⟨0, Nat.zero_le _, rfl, HR0⟩
  case round =>
    clear HR0
    obtain ⟨k, hk, rfl, HRr⟩ := hrel
    obtain ⟨q, rfl⟩ := (hR.out _).1 HRr.out
    by_cases hlt : k < ls.length
    · have hltI : (k : Int) < (ls.length : Int) := by omega
      obtain ⟨y, hy⟩ : ∃ y, ls[k]? = some y := ⟨_, List.getElem?_eq_getElem hlt⟩
      have hv : (strV ls)[k]? = some (.string y) := by unfold strV; rw [List.getElem?_map, hy]; rfl
      obtain ⟨b1, o1, rfl, _, h1⟩ := HR.out k _ hv
      obtain ⟨b2, o2, rfl, _, h2⟩ := HR'.out k _ hv
      have e1 := str_self2 y
      have e2 : (y.toList != y.toList) = false := by simp
      have HRn : Hid (∀ n, R (w.drewN (q + n))) := fun n => (hR.out _).2 ⟨q + n, rfl⟩
      clear hv hy HRr
      go_wp2_with fail
      go_quiet (fail)
      have HRx := Lib.hid (HRn.out nq)
      go_wp2_with fail
      go_roundw
      case rel => exact ⟨k + 1, by omega, by go_num, HRx⟩
      case measure => simp [intOf]; omega
    · go_wp2_with fail
      go_ret
      exact ⟨rfl, below_drewN' (Below.refl _ _) q⟩
def namesS (d : Dep) (ls : List ByteArray) : List ByteArray := (namesOf d).foldl putS ls
def namesSA (ds : List Dep) (ls : List ByteArray) : List ByteArray := (namesA ds).foldl putS ls
theorem putS_len (l : List ByteArray) (s : ByteArray) : (putS l s).length ≤ l.length + 1 := by
  induction l with
  | nil => simp [putS]
  | cons x r ih =>
    unfold putS
    split
    · simp only [List.length_cons]; omega
    · split <;> simp
theorem foldS_len (xs : List ByteArray) : ∀ ls : List ByteArray, (xs.foldl putS ls).length ≤ ls.length + xs.length := by
  induction xs with
  | nil => intro ls; simp
  | cons x r ih =>
    intro ls
    have h1 := ih (putS ls x)
    have h2 := putS_len ls x
    simp only [List.foldl_cons, List.length_cons]
    omega
theorem namesOf_len (d : Dep) : (namesOf d).length ≤ nodes d := by
  induction d using Dep.ind with
  | h k n o e xs ih =>
    have h : ∀ bs : List Dep, (∀ b ∈ bs, (namesOf b).length ≤ nodes b) → (namesA bs).length ≤ nodesA bs := by
      intro bs
      induction bs with
      | nil => intro _; simp [namesA, nodesA]
      | cons b r ihr =>
        intro hb
        have h1 := hb b (by simp)
        have h2 := ihr fun x hx => hb x (by simp [hx])
        simp only [namesA, nodesA, List.length_append]
        omega
    have := h xs ih
    simp only [namesOf, nodes, List.length_append]
    split
    · simp only [List.length_cons, List.length_nil]; omega
    · simp only [List.length_nil]; omega
theorem namesA_take {xs : List Dep} {k : Nat} {a : Dep} (h : xs[k]? = some a) (ls : List ByteArray) : namesSA (xs.take (k + 1)) ls = namesS a (namesSA (xs.take k) ls) := by
  have e : ∀ (p : List Dep), namesA (p ++ [a]) = namesA p ++ namesOf a := by
    intro p
    induction p with
    | nil => simp [namesA]
    | cons b r ih => simp only [List.cons_append, namesA, ih, List.append_assoc]
  unfold namesSA namesS
  rw [List.take_add_one, h]
  show (namesA (xs.take k ++ [a])).foldl putS ls = _
  rw [e, List.foldl_append]
theorem namesA_lenT (xs : List Dep) (k : Nat) : (namesA (xs.take k)).length ≤ nodesA xs := by
  have h : ∀ bs : List Dep, (namesA bs).length ≤ nodesA bs := by
    intro bs
    induction bs with
    | nil => simp [namesA, nodesA]
    | cons b r ih => have := namesOf_len b; simp only [namesA, nodesA, List.length_append]; omega
  have h1 := h (xs.take k)
  have h2 : nodesA xs = nodesA (xs.take k) + nodesA (xs.drop k) := by rw [← nodesA_append, List.take_append_drop]
  omega
def RNamesOk (d : Dep) : Prop := ∀ (s : Value) (S : Nat → Prop) (A' : Option Addr) (c' : Nat) (ls : List ByteArray) (w : World), Lay w S d s → nodes d + ls.length ≤ 4194304 → ls.length ≤ c' → c' ≤ maxLen → Rd w w.heap.size A' (strV ls) →
  Calls Tryz.prog 23 #[.agg (rowD d s), .slice A' ls.length c'] w (LstS w (namesS d ls))
set_option maxHeartbeats 2000000 in
set_option maxRecDepth 100000 in
theorem refNames_node (d : Dep) (ih : ∀ a ∈ d.args, RNamesOk a) : RNamesOk d := by
  intro s S A' c' ls w hL hN hc' hcm' hR'
  obtain ⟨A, c, rfl, hc1, hc2, hA⟩ := hL.args_
  have hnd := nodes_parts d
  obtain ⟨w1, hw1⟩ : ∃ w1, w1 = w.alloc (.cells (rowD d (.slice A d.args.length c)) 24) := ⟨_, rfl⟩
  have hB1 : Below w.heap.size w w1 := by rw [hw1]; exact (Below.refl _ _).alloc (Nat.le_refl _) _
  have K : Blk w1 w.heap.size 24 (rowD d (.slice A d.args.length c)) := by rw [hw1]; exact Blk.new _ _ _
  have hz : w1.heap.size = w.heap.size + 1 := by rw [hw1]; simp
  have hA1 : ArgsAt w1 S d.args A := hA.stay (fun _ h => h) (StayS.below' hB1)
  have HF : Hid (∀ wx, Below w1.heap.size w1 wx → Blk wx w.heap.size 24 (rowD d (.slice A d.args.length c)) ∧ ArgsAt wx S d.args A ∧ Below w.heap.size w wx) := fun wx hb => ⟨K.below hb (by omega), hA1.stay (fun _ h => h) (StayS.below' hb), hB1.trans (hb.mono (by omega))⟩
  have HIH := Lib.hid ih
  -- the list behind the dependency's own name
  obtain ⟨l0, hl0⟩ : ∃ l0, Hid (l0 = if d.kind = 1 then putS ls d.name else ls) := ⟨_, rfl⟩
  have hl0n : l0.length ≤ ls.length + 1 := by
    rw [hl0.out]
    split
    · exact putS_len ls d.name
    · omega
  obtain ⟨RES, hRES⟩ : ∃ RES, Hid (RES = namesS d ls) := ⟨_, rfl⟩
  rw [← hRES.out]
  have HRES : Hid (RES = namesSA d.args l0) := by
    show _ = _
    rw [hRES.out, hl0.out]
    obtain ⟨k, n, o, e, xs⟩ := d
    unfold namesS namesSA
    simp only [namesOf, Dep.kind, Dep.name, Dep.args, List.foldl_append]
    by_cases hk : k = 1
    · subst hk; rfl
    · simp [hk]
  have HLen : Hid (∀ k, (namesSA (d.args.take k) l0).length + (nodesA d.args - nodesA (d.args.take k)) ≤ 4194304) := fun k => by
    have h1 := foldS_len (namesA (d.args.take k)) l0
    have h2 : nodesA d.args = nodesA (d.args.take k) + nodesA (d.args.drop k) := by rw [← nodesA_append, List.take_append_drop]
    have h3 := namesA_lenT (d.args.take k) (d.args.take k).length
    rw [List.take_length] at h3
    show _ ≤ _
    unfold namesSA
    omega
  have HNd : Hid (∀ k a, d.args[k]? = some a → nodes a ≤ nodesA d.args - nodesA (d.args.take k)) := fun k a ha => by
    have h2 : nodesA d.args = nodesA (d.args.take k) + nodesA (d.args.drop k) := by rw [← nodesA_append, List.take_append_drop]
    have hm : a ∈ d.args.drop k := List.mem_of_getElem? (i := 0) (by rw [List.getElem?_drop]; simpa using ha)
    have := nodesA_mem hm
    omega
  have hR1 := hR'.below hB1 (Nat.le_refl _)
  have hnl : d.args.length ≤ 9223372036854775807 := by unfold maxLen at hc2; omega
  have HPut := Lib.hid (refPut_any A' c' ls.length d.name ls w1 rfl (by omega) hc' hcm' (fun k v hk => by
    obtain ⟨b, o, e, hb, hcell⟩ := hR1 k v hk
    exact ⟨b, o, e, by omega, hcell⟩))
  have HRl : Hid (Rd w1 w1.heap.size A' (strV ls)) := fun k v hk => by
    obtain ⟨b, o, e, hb, hcell⟩ := hR1 k v hk
    exact ⟨b, o, e, by omega, hcell⟩
  obtain ⟨T, HT⟩ : ∃ T : World → Nat → Value → Prop, Hid (∀ wx k v, T wx k v ↔ ∃ A c, v = .slice A (namesSA (d.args.take k) l0).length c ∧ (namesSA (d.args.take k) l0).length ≤ c ∧ c ≤ maxLen ∧ Rd wx wx.heap.size A (strV (namesSA (d.args.take k) l0)) ∧ Below w1.heap.size w1 wx) := ⟨_, fun _ _ _ => Iff.rfl⟩
  have e0 : namesSA (d.args.take 0) l0 = l0 := rfl
  have HE0 := Lib.hid e0
  have HBr := Lib.hid (Below.refl w1.heap.size w1)
  have HC' := Lib.hid (And.intro hc' hcm')
  have hfin : Hid (∀ wx, T wx d.args.length = T wx d.args.length) := fun _ => rfl
  clear hL hA hnd hB1 K hz hA1 ih hRES hR' hR1 hc2 hc1 hN hc' hcm' e0 hfin hl0n
  by_cases hk : d.kind = 1
  · have t1 : (d.kind == 1) = true := by rw [hk]; rfl
    have HL0 : Hid (l0 = putS ls d.name) := by show _ = _; rw [hl0.out, if_pos hk]
    clear hk hl0
    subst hw1
    unfold rowD at HF HPut HT HBr HRl ⊢
    go_enter Tryz.func23, Tryz.ntmps23
    go_wp2_with fail
    refine HPut.out.mono ?_
    rintro e w2 ⟨A2, c2, rfl, h1, h2, h3, h4⟩
    have HT0 : Hid (T w2 0 (.slice A2 (putS ls d.name).length c2)) := (HT.out _ _ _).2 ⟨A2, c2, by rw [HE0.out, HL0.out], by rw [HE0.out, HL0.out]; exact h1, h2, by rw [HE0.out, HL0.out]; exact h3, h4⟩
    clear h1 h2 h3 h4 HPut
    go_wp2_with fail
    go_loopw [1, 5] (fun v1 v5 wx => ∃ (k : Nat), k ≤ d.args.length ∧ v5 = .int .i64 (k : Int) ∧ Hid (T wx k v1)) (fun _ v5 _ => d.args.length - (intOf v5).toNat)
    case atStart => exact ⟨0, Nat.zero_le _, rfl, HT0⟩
    case round =>
      clear HT0
      obtain ⟨k, hkn, rfl, HTr⟩ := hrel
      obtain ⟨Av, cv, rfl, hv1, hv2, hv3, hv4⟩ := (HT.out _ _ _).1 HTr.out
      obtain ⟨Kr, hAr, hBr⟩ := HF.out wr hv4
      have c4 := Kr.cell 4
      simp at c4
      by_cases hlt : k < d.args.length
      · obtain ⟨a, ha⟩ : ∃ a, d.args[k]? = some a := ⟨_, List.getElem?_eq_getElem hlt⟩
        obtain ⟨b', o', t, hA', hSb, hC, hLa⟩ := hAr k a ha
        obtain ⟨At, ct, rfl, _, _⟩ := hLa.form_
        subst hA'
        obtain ⟨e0, e1, e2, e3, e4⟩ := hC
        have CI := Lib.hid (HIH.out a (List.mem_of_getElem? ha) _ S Av cv (namesSA (d.args.take k) l0) wr hLa (by have h1 := HLen.out k; have h2 := HNd.out k a ha; omega) hv1 hv2 hv3)
        have HNx : Hid (∀ e w', LstS wr (namesS a (namesSA (d.args.take k) l0)) e w' → ∃ A2 c2, e = .returned (.slice A2 (namesSA (d.args.take (k + 1)) l0).length c2) ∧ T w' (k + 1) (.slice A2 (namesSA (d.args.take (k + 1)) l0).length c2)) := fun e w' hh => by
          obtain ⟨A2, c2, he, p1, p2, p3, p4⟩ := hh
          rw [← namesA_take ha] at he p1 p3
          exact ⟨A2, c2, he, (HT.out _ _ _).2 ⟨A2, c2, rfl, p1, p2, p3, hv4.trans (p4.mono hv4.size)⟩⟩
        clear Kr hAr hBr hLa ha hv1 hv2 hv3 hv4 HTr
        unfold rowD at CI
        generalize (namesSA (d.args.take k) l0).length = m at *
        go_wp2_with fail
        refine CI.out.mono ?_
        rintro e w3 hh
        obtain ⟨A2, c2, rfl, hT2⟩ := HNx.out e w3 hh
        have HT2 := Lib.hid hT2
        clear hh hT2 CI HNx
        go_wp2_with fail
        go_roundw
        case rel => exact ⟨k + 1, by omega, by go_num, HT2⟩
        case measure => simp [intOf]; omega
      · have hkk : k = d.args.length := by omega
        subst hkk
        rw [List.take_length] at hv1 hv3 ⊢
        rw [← HRES.out] at hv1 hv3 ⊢
        have HP : Hid (LstS w RES (.returned (.slice Av RES.length cv)) wr) := ⟨Av, cv, rfl, hv1, hv2, hv3, hBr⟩
        clear Kr hAr hBr hv1 hv2 hv3 hv4 HTr
        go_wp2_with fail
        go_ret
        exact HP.out
  · have t1 : (d.kind == 1) = false := beq_eq_false_iff_ne.2 hk
    have HL0 : Hid (l0 = ls) := by show _ = _; rw [hl0.out, if_neg hk]
    have HT0 : Hid (T w1 0 (.slice A' ls.length c')) := (HT.out _ _ _).2 ⟨A', c', by rw [HE0.out, HL0.out], by rw [HE0.out, HL0.out]; exact HC'.out.1, HC'.out.2, by rw [HE0.out, HL0.out]; exact HRl.out, HBr.out⟩
    clear hk hl0 HPut
    subst hw1
    unfold rowD at HF HT HT0 HBr HRl ⊢
    go_enter Tryz.func23, Tryz.ntmps23
    go_wp2_with fail
    go_loopw [1, 5] (fun v1 v5 wx => ∃ (k : Nat), k ≤ d.args.length ∧ v5 = .int .i64 (k : Int) ∧ Hid (T wx k v1)) (fun _ v5 _ => d.args.length - (intOf v5).toNat)
    case atStart => exact ⟨0, Nat.zero_le _, rfl, HT0⟩
    case round =>
      clear HT0
      obtain ⟨k, hkn, rfl, HTr⟩ := hrel
      obtain ⟨Av, cv, rfl, hv1, hv2, hv3, hv4⟩ := (HT.out _ _ _).1 HTr.out
      obtain ⟨Kr, hAr, hBr⟩ := HF.out wr hv4
      have c4 := Kr.cell 4
      simp at c4
      by_cases hlt : k < d.args.length
      · obtain ⟨a, ha⟩ : ∃ a, d.args[k]? = some a := ⟨_, List.getElem?_eq_getElem hlt⟩
        obtain ⟨b', o', t, hA', hSb, hC, hLa⟩ := hAr k a ha
        obtain ⟨At, ct, rfl, _, _⟩ := hLa.form_
        subst hA'
        obtain ⟨e0, e1, e2, e3, e4⟩ := hC
        have CI := Lib.hid (HIH.out a (List.mem_of_getElem? ha) _ S Av cv (namesSA (d.args.take k) l0) wr hLa (by have h1 := HLen.out k; have h2 := HNd.out k a ha; omega) hv1 hv2 hv3)
        have HNx : Hid (∀ e w', LstS wr (namesS a (namesSA (d.args.take k) l0)) e w' → ∃ A2 c2, e = .returned (.slice A2 (namesSA (d.args.take (k + 1)) l0).length c2) ∧ T w' (k + 1) (.slice A2 (namesSA (d.args.take (k + 1)) l0).length c2)) := fun e w' hh => by
          obtain ⟨A2, c2, he, p1, p2, p3, p4⟩ := hh
          rw [← namesA_take ha] at he p1 p3
          exact ⟨A2, c2, he, (HT.out _ _ _).2 ⟨A2, c2, rfl, p1, p2, p3, hv4.trans (p4.mono hv4.size)⟩⟩
        clear Kr hAr hBr hLa ha hv1 hv2 hv3 hv4 HTr
        unfold rowD at CI
        generalize (namesSA (d.args.take k) l0).length = m at *
        go_wp2_with fail
        refine CI.out.mono ?_
        rintro e w3 hh
        obtain ⟨A2, c2, rfl, hT2⟩ := HNx.out e w3 hh
        have HT2 := Lib.hid hT2
        clear hh hT2 CI HNx
        go_wp2_with fail
        go_roundw
        case rel => exact ⟨k + 1, by omega, by go_num, HT2⟩
        case measure => simp [intOf]; omega
      · have hkk : k = d.args.length := by omega
        subst hkk
        rw [List.take_length] at hv1 hv3 ⊢
        rw [← HRES.out] at hv1 hv3 ⊢
        have HP : Hid (LstS w RES (.returned (.slice Av RES.length cv)) wr) := ⟨Av, cv, rfl, hv1, hv2, hv3, hBr⟩
        clear Kr hAr hBr hv1 hv2 hv3 hv4 HTr
        go_wp2_with fail
        go_ret
        exact HP.out
theorem refNamesIn_any (d : Dep) : RNamesOk d := by
  induction d using Dep.ind with
  | h k n o e xs ih => exact refNames_node _ ih
end Go.Proofs.YtghbhajiddnmkaaGreatDoor
