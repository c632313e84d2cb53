/- DepPrints: the walk of the law. Region 8 lacks. -/
import Derived.Test.YtghbhajiddnmkaaGreatDoorDNamed
import Derived.Test.YtghbhajiddnmkaaGreatDoorDOwn
import Derived.Test.YtghbhajiddnmkaaGreatDoorDAwake
namespace Go.Proofs.YtghbhajiddnmkaaGreatDoor
set_option linter.unusedSimpArgs false
set_option linter.unusedVariables false
open Go.RowKit

theorem prints_ret (w0 : World) : ∀ (a : Act) (w : World), a.tmps.getD 2 undef = .bool true → a.defers = [] → Below w0.heap.size w0 w → Code.wp Tryz.prog Code.ret (bodyPost Tryz.prog Tryz.f3 (TrueBelow w0)) a w := by
  rintro ⟨tmps, defers⟩ w h2 hd hb
  simp only at h2 hd
  subst hd
  have HB := Lib.hid hb
  have H2 := Lib.hid h2
  clear hb h2
  go_wp2_with fail
  go_ret
  exact ⟨by show Ending.returned _ = _; rw [H2.out], HB.out⟩
set_option maxHeartbeats 6000000 in
set_option maxRecDepth 100000 in
theorem depPrints_any (d : Dep) (s : Value) (S : Nat → Prop) (w : World) (hL : Lay w S d s) (hT : Tabs w) (hsm : small d) (hN : nodes d ≤ 4194304) :
    Calls Tryz.prog 3 #[.agg (rowD d s)] w (TrueBelow w) := by
  obtain ⟨A, c, rfl, _, _⟩ := hL.form_
  obtain ⟨w1, hw1⟩ : ∃ w1, w1 = w.alloc (.cells (rowD d (.slice A d.args.length c)) 24) := ⟨_, rfl⟩
  have hB1 : Below w.heap.size w w1 := by rw [hw1]; exact (Below.refl _ _).alloc (Nat.le_refl _) _
  have K1 : Blk w1 w.heap.size 24 (rowD d (.slice A d.args.length c)) := by rw [hw1]; exact Blk.new _ _ _
  have hT1 : Tabs w1 := hT.below hB1 hT.two
  have hL1 : Lay w1 S d (.slice A d.args.length c) := hL.stay (fun _ h => h) (StayS.below' hB1)
  have CA := Lib.hid (depAwake_any w1 hT1)
  have HF : Hid (∀ wx, Below w1.heap.size w1 wx → Blk wx w.heap.size 24 (rowD d (.slice A d.args.length c)) ∧ Lay wx S d (.slice A d.args.length c) ∧ Below w.heap.size w wx ∧ Tabs wx) := fun wx hb => ⟨K1.below hb K1.lt, hL1.stay (fun _ h => h) (StayS.below' hb), hB1.trans (hb.mono hB1.size), hT1.below hb hT1.two⟩
  have CO := Lib.hid (fun wx hb => own_any d (.slice A d.args.length c) S wx (HF.out wx hb).2.1 hN)
  have hk : 1 < w1.heap.size := by have := hT1.two; omega
  clear hL hT hB1 K1 hT1 hL1
  subst hw1
  unfold rowD at CA HF CO ⊢
  go_enter Tryz.func3, Tryz.ntmps3
  go_wp2_with fail
  refine CA.out.mono ?_
  rintro e w2 ⟨rfl, hb2⟩
  obtain ⟨K2, hL2, hB2, hT2⟩ := HF.out w2 hb2
  have HB2 := Lib.hid hb2
  have CO2 := Lib.hid (CO.out w2 hb2)
  have k0 := K2.cell 0
  have k1 := K2.cell 1
  have k2 := K2.cell 2
  have k3 := K2.cell 3
  have k4 := K2.cell 4
  simp at k0 k1 k2 k3 k4
  clear CA hb2 K2 hL2 hB2 hT2
  go_wp2_with fail
  refine CO2.out.mono ?_
  rintro e w3 ⟨hb3, Ao, co, S', rfl, hLo, hCo, hSo⟩
  clear CO2 k0 k1 k2 k3 k4
  have hB23 : Below w.heap.size w w3 := by
    obtain ⟨_, _, hBw, _⟩ := HF.out w2 HB2.out
    exact hBw.trans (hb3.mono hBw.size)
  have HFW : Hid (∀ wx, Below w2.heap.size w2 wx → Below (w.alloc (.cells #[.int .i64 d.kind, .string d.name, .int .i64 d.op, .string d.evr, .slice A d.args.length c] 24)).heap.size (w.alloc (.cells #[.int .i64 d.kind, .string d.name, .int .i64 d.op, .string d.evr, .slice A d.args.length c] 24)) wx) := fun wx hb => HB2.out.trans (hb.mono HB2.out.size)
  have hb34 : Below w2.heap.size w2 (w3.alloc (.cells (rowD d (.slice Ao d.args.length co)) 24)) := hb3.alloc hb3.size _
  have Ko : Blk (w3.alloc (.cells (rowD d (.slice Ao d.args.length co)) 24)) w3.heap.size 24 (rowD d (.slice Ao d.args.length co)) := Blk.new _ _ _
  have hst : StayS S' w3 (w3.alloc (.cells (rowD d (.slice Ao d.args.length co)) 24)) := StayS.below' ((Below.refl _ _).alloc (Nat.le_refl _) _)
  have hLo4 := hLo.stay (fun _ h => h) hst
  have hCo4 := hCo.stay hst
  have HG : Hid (∀ wx, Below (w3.alloc (.cells (rowD d (.slice Ao d.args.length co)) 24)).heap.size (w3.alloc (.cells (rowD d (.slice Ao d.args.length co)) 24)) wx →
      Blk wx w.heap.size 24 (rowD d (.slice A d.args.length c)) ∧ Blk wx w3.heap.size 24 (rowD d (.slice Ao d.args.length co)) ∧ Lay wx S d (.slice A d.args.length c) ∧ Lay wx S' d (.slice Ao d.args.length co) ∧ CleanS wx S' ∧ Below w.heap.size w wx ∧ Tabs wx) := fun wx hb => by
    obtain ⟨q1, q2, q3, q4⟩ := HF.out wx (HFW.out wx (hb34.trans (hb.mono hb34.size)))
    exact ⟨q1, Ko.below hb Ko.lt, q2, hLo4.stay (fun _ h => h) (StayS.below' hb), hCo4.stay (StayS.below' hb), q3, q4⟩
  generalize hw4 : w3.alloc (.cells (rowD d (.slice Ao d.args.length co)) 24) = w4 at HG
  unfold rowD at hw4
  have HBr := Lib.hid (Below.refl w4.heap.size w4)
  have HLN : Hid ((namesS d []).length ≤ 4194304) := by
    have h1 := foldS_len (namesOf d) []
    have h2 := namesOf_len d
    show _ ≤ _
    unfold namesS
    simp at h1
    omega
  have HSN := Lib.hid (And.intro hsm hN)
  clear hLo hCo hSo hb34 Ko hst hLo4 hCo4 HFW HF CO HB2 hb3 hsm hN hB23
  go_upto_region 3 with fail
  clear hw4
  obtain ⟨ki, ko, hLi, hLo, hCo, hBw, hTw⟩ := HG.out w4 HBr.out
  unfold rowD at ki ko
  have o0 := ko.cell 0
  have o1 := ko.cell 1
  have o2 := ko.cell 2
  have o3 := ko.cell 3
  have o4 := ko.cell 4
  simp at o0 o1 o2 o3 o4
  have C := Lib.hid (depPrint_any d (.slice Ao d.args.length co) S' w4 hLo hCo hTw HSN.out.2)
  unfold rowD at C
  clear ki ko hLi hLo hCo hBw hTw
  go_wp2_with fail
  refine C.out.mono ?_
  rintro e w5 ⟨rfl, hb5⟩
  have HB5 := Lib.hid hb5
  clear hb5 C o0 o1 o2 o3 o4
  obtain ⟨ki, ko, hLi, hLo, hCo, hBw, hTw⟩ := HG.out w5 HB5.out
  unfold rowD at ki ko
  have k0 := ki.cell 0
  have k1 := ki.cell 1
  have k2 := ki.cell 2
  have k3 := ki.cell 3
  have k4 := ki.cell 4
  simp at k0 k1 k2 k3 k4
  have C := Lib.hid (refPrint_any d (.slice A d.args.length c) S w5 hLi HSN.out.1 HSN.out.2)
  unfold rowD at C
  clear ki ko hLi hLo hCo hBw hTw
  go_wp2_with fail
  refine C.out.mono ?_
  rintro e w6 ⟨rfl, hb6⟩
  have HB6 : Hid (Below w4.heap.size w4 w6) := HB5.out.trans (hb6.mono HB5.out.size)
  clear hb6 C k0 k1 k2 k3 k4 HB5
  obtain ⟨ki, ko, hLi, hLo, hCo, hBw, hTw⟩ := HG.out w6 HB6.out
  unfold rowD at ki ko
  have o0 := ko.cell 0
  have o1 := ko.cell 1
  have o2 := ko.cell 2
  have o3 := ko.cell 3
  have o4 := ko.cell 4
  simp at o0 o1 o2 o3 o4
  have C := Lib.hid (depNames_any d (.slice Ao d.args.length co) S' w6 hLo hCo hTw HSN.out.1 HSN.out.2)
  unfold rowD at C
  clear ki ko hLi hLo hCo hBw hTw
  go_wp2_with fail
  refine C.out.mono ?_
  rintro e w7 ⟨A7, c7, rfl, hc7, hm7, hR7, hb7⟩
  have HB7 : Hid (Below w4.heap.size w4 w7) := HB6.out.trans (hb7.mono HB6.out.size)
  have HR7 := Lib.hid hR7
  clear hb7 C o0 o1 o2 o3 o4 HB6 hR7
  obtain ⟨ki, ko, hLi, hLo, hCo, hBw, hTw⟩ := HG.out w7 HB7.out
  unfold rowD at ki ko
  have k0 := ki.cell 0
  have k1 := ki.cell 1
  have k2 := ki.cell 2
  have k3 := ki.cell 3
  have k4 := ki.cell 4
  simp at k0 k1 k2 k3 k4
  have C := Lib.hid (refNames_any d (.slice A d.args.length c) S w7 hLi HSN.out.2)
  unfold rowD at C
  clear ki ko hLi hLo hCo hBw hTw
  go_wp2_with fail
  refine C.out.mono ?_
  rintro e w8 ⟨A8, c8, rfl, hc8, hm8, hR8, hb8⟩
  have HB8 : Hid (Below w4.heap.size w4 w8) := HB7.out.trans (hb8.mono HB7.out.size)
  have CS := Lib.hid (sameTexts_yes (namesS d []) A7 A8 c7 c8 w8 HLN.out hc7 hc8 (fun k v hk => by
    obtain ⟨b, o, e, hb, hcell⟩ := HR7.out.below hb8 (Nat.le_refl _) k v hk
    exact ⟨b, o, e, Nat.lt_of_lt_of_le hb hb8.size, hcell⟩) hR8)
  clear hb8 C k0 k1 k2 k3 k4 HB7 HR7 hR8
  go_wp2_with fail
  refine CS.out.mono ?_
  rintro e w9 ⟨rfl, hb9⟩
  have HB9 : Hid (Below w4.heap.size w4 w9) := HB8.out.trans (hb9.mono HB8.out.size)
  clear hb9 CS HB8 HLN
  obtain ⟨ki, ko, hLi, hLo, hCo, hBw, hTw⟩ := HG.out w9 HB9.out
  unfold rowD at ki ko
  have k0 := ki.cell 0
  have k1 := ki.cell 1
  have k2 := ki.cell 2
  have k3 := ki.cell 3
  have k4 := ki.cell 4
  simp at k0 k1 k2 k3 k4
  have o0 := ko.cell 0
  have o1 := ko.cell 1
  have o2 := ko.cell 2
  have o3 := ko.cell 3
  have o4 := ko.cell 4
  simp at o0 o1 o2 o3 o4
  have C := Lib.hid (refSame_any d (.slice Ao d.args.length co) (.slice A d.args.length c) S' S w9 hLo hLi)
  unfold rowD at C
  clear ki ko hLi hLo hCo hBw hTw
  go_wp2_with fail
  refine C.out.mono ?_
  rintro e w10 ⟨rfl, hb10⟩
  have HB10 : Hid (Below w4.heap.size w4 w10) := HB9.out.trans (hb10.mono HB9.out.size)
  clear hb10 C k0 k1 k2 k3 k4 o0 o1 o2 o3 o4 HB9
  go_upto_region 8 with fail
  have eS : ((printS d).toList == (printS d).toList) = true := by simp
  have eI : (checkN d == checkN d) = true := by simp
  have HLI : Hid (∀ w', Below w4.heap.size w4 w' → Blk w' w.heap.size 24 #[.int .i64 d.kind, .string d.name, .int .i64 d.op, .string d.evr, .slice A d.args.length c]) := fun w' hb => (HG.out w' hb).1
  have HLO : Hid (∀ w', Below w4.heap.size w4 w' → Blk w' w3.heap.size 24 #[.int .i64 d.kind, .string d.name, .int .i64 d.op, .string d.evr, .slice Ao d.args.length co]) := fun w' hb => (HG.out w' hb).2.1
  have CC := Lib.hid (fun w' hb => depCheck_any d (.slice Ao d.args.length co) S' w' (HG.out w' hb).2.2.2.1 (HG.out w' hb).2.2.2.2.1 (HG.out w' hb).2.2.2.2.2.2 HSN.out.2)
  have CR := Lib.hid (fun w' hb => refCheckD_any d (.slice A d.args.length c) S w' (HG.out w' hb).2.2.1 HSN.out.1 HSN.out.2)
  have HBW : Hid (∀ w', Below w4.heap.size w4 w' → Below w.heap.size w w') := fun w' hb => (HG.out w' hb).2.2.2.2.2.1
  unfold rowD at CC CR
  rename_i K hK
  clear HG HSN
  refine wp_region_S (fun _ w' => Below w4.heap.size w4 w') (by kernel_rfl) HB10.out.drew (fun hS => ?_)
  refine wpAnyS_take (i := 0) (fun _ => True) (v := .bool true) rfl (by kernel_rfl) (by kernel_rfl) (by kernel_rfl) (fun _ _ _ h => h) (fun _ _ _ _ => trivial) (fun _ _ => Iff.rfl) (by kernel_rfl) hS (fun w' hSw => ?_) (by kernel_rfl) (fun hS => ?_)
  · go_simp
  try simp only [Act.put, List.setIfInBounds_toArray, List.set_cons_zero, List.set_cons_succ]
  refine wpAnyS_take (i := 1) (fun _ => True) (v := .bool true) rfl (by kernel_rfl) (by kernel_rfl) (by kernel_rfl) (fun _ _ _ h => h) (fun _ _ _ _ => trivial) (fun _ _ => Iff.rfl) (by kernel_rfl) hS (fun w' hSw => ?_) (by kernel_rfl) (fun hS => ?_)
  · go_simp
  try simp only [Act.put, List.setIfInBounds_toArray, List.set_cons_zero, List.set_cons_succ]
  refine wpAnyS_take (i := 2) (fun _ => True) (v := .string (printS d)) rfl (by kernel_rfl) (by kernel_rfl) (by kernel_rfl) (fun _ _ _ h => h) (fun _ _ _ _ => trivial) (fun _ _ => Iff.rfl) (by kernel_rfl) hS (fun w' hSw => ?_) (by kernel_rfl) (fun hS => ?_)
  · go_simp
  try simp only [Act.put, List.setIfInBounds_toArray, List.set_cons_zero, List.set_cons_succ]
  refine wpAnyS_take (i := 3) (fun _ => True) (v := .string (printS d)) rfl (by kernel_rfl) (by kernel_rfl) (by kernel_rfl) (fun _ _ _ h => h) (fun _ _ _ _ => trivial) (fun _ _ => Iff.rfl) (by kernel_rfl) hS (fun w' hSw => ?_) (by kernel_rfl) (fun hS => ?_)
  · go_simp
  try simp only [Act.put, List.setIfInBounds_toArray, List.set_cons_zero, List.set_cons_succ]
  refine wpAnyS_take (i := 4) (fun _ => True) (v := .bool true) rfl (by kernel_rfl) (by kernel_rfl) (by kernel_rfl) (fun _ _ _ h => h) (fun _ _ _ _ => trivial) (fun _ _ => Iff.rfl) (by kernel_rfl) hS (fun w' hSw => ?_) (by kernel_rfl) (fun hS => ?_)
  · go_simp
  try simp only [Act.put, List.setIfInBounds_toArray, List.set_cons_zero, List.set_cons_succ]
  refine wpAnyS_take (i := 5) (fun _ => True) (v := .bool true) rfl (by kernel_rfl) (by kernel_rfl) (by kernel_rfl) (fun _ _ _ h => h) (fun _ _ _ _ => trivial) (fun _ _ => Iff.rfl) (by kernel_rfl) hS (fun w' hSw => ?_) (by kernel_rfl) (fun hS => ?_)
  · go_simp
  try simp only [Act.put, List.setIfInBounds_toArray, List.set_cons_zero, List.set_cons_succ]
  refine wpAnyS_take (i := 6) (fun _ => True) (v := .bool true) rfl (by kernel_rfl) (by kernel_rfl) (by kernel_rfl) (fun _ _ _ h => h) (fun _ _ _ _ => trivial) (fun _ _ => Iff.rfl) (by kernel_rfl) hS (fun w' hSw => ?_) (by kernel_rfl) (fun hS => ?_)
  · go_simp
  try simp only [Act.put, List.setIfInBounds_toArray, List.set_cons_zero, List.set_cons_succ]
  refine wpAnyS_take (i := 7) (fun _ => True) (v := .int .i64 (checkN d)) rfl (by kernel_rfl) (by kernel_rfl) (by kernel_rfl) (fun _ _ _ h => h) (fun _ _ _ _ => trivial) (fun _ _ => Iff.rfl) (by kernel_rfl) hS (fun w' hSw => ?_) (by kernel_rfl) (fun hS => ?_)
  · go_simp
  try simp only [Act.put, List.setIfInBounds_toArray, List.set_cons_zero, List.set_cons_succ]
  refine wpAnyS_take (i := 8) (fun _ => True) (v := .int .i64 (checkN d)) rfl (by kernel_rfl) (by kernel_rfl) (by kernel_rfl) (fun _ _ _ h => h) (fun _ _ _ _ => trivial) (fun _ _ => Iff.rfl) (by kernel_rfl) hS (fun w' hSw => ?_) (by kernel_rfl) (fun hS => ?_)
  · go_simp
  try simp only [Act.put, List.setIfInBounds_toArray, List.set_cons_zero, List.set_cons_succ]
  refine wpAnyS_take (i := 9) (fun _ => True) (v := .bool true) rfl (by kernel_rfl) (by kernel_rfl) (by kernel_rfl) (fun _ _ _ h => h) (fun _ _ _ _ => trivial) (fun _ _ => Iff.rfl) (by kernel_rfl) hS (fun w' hSw => ?_) (by kernel_rfl) (fun hS => ?_)
  · go_simp
  try simp only [Act.put, List.setIfInBounds_toArray, List.set_cons_zero, List.set_cons_succ]
  refine wpAnyS_take (i := 10) (fun _ => True) (v := .bool true) rfl (by kernel_rfl) (by kernel_rfl) (by kernel_rfl) (fun _ _ _ h => h) (fun _ _ _ _ => trivial) (fun _ _ => Iff.rfl) (by kernel_rfl) hS (fun w' hSw => ?_) (by kernel_rfl) (fun hS => ?_)
  · go_simp
  try simp only [Act.put, List.setIfInBounds_toArray, List.set_cons_zero, List.set_cons_succ]
  refine wpAnyS_take (i := 11) (fun _ => True) (v := .bool true) rfl (by kernel_rfl) (by kernel_rfl) (by kernel_rfl) (fun _ _ _ h => h) (fun _ _ _ _ => trivial) (fun _ _ => Iff.rfl) (by kernel_rfl) hS (fun w' hSw => ?_) (by kernel_rfl) (fun hS => ?_)
  · go_simp
  try simp only [Act.put, List.setIfInBounds_toArray, List.set_cons_zero, List.set_cons_succ]
  refine wpAnyS_take (i := 12) (fun w' => Blk w' w3.heap.size 24 #[.int .i64 d.kind, .string d.name, .int .i64 d.op, .string d.evr, .slice Ao d.args.length co]) (v := .agg #[.int .i64 d.kind, .string d.name, .int .i64 d.op, .string d.evr, .slice Ao d.args.length co]) rfl (by kernel_rfl) (by kernel_rfl) (by kernel_rfl) (fun _ _ _ h => h) (fun l w' hw hS => HLO.out _ hS) (fun _ _ => Iff.rfl) (by kernel_rfl) hS (fun w' hSw => ?_) (by kernel_rfl) (fun hS => ?_)
  · have q0 := hSw.cell 0; have q1 := hSw.cell 1; have q2 := hSw.cell 2; have q3 := hSw.cell 3; have q4 := hSw.cell 4; simp at q0 q1 q2 q3 q4; go_simp
  try simp only [Act.put, List.setIfInBounds_toArray, List.set_cons_zero, List.set_cons_succ]
  refine wpAnyS_take (i := 14) (fun w' => Blk w' w.heap.size 24 #[.int .i64 d.kind, .string d.name, .int .i64 d.op, .string d.evr, .slice A d.args.length c]) (v := .agg #[.int .i64 d.kind, .string d.name, .int .i64 d.op, .string d.evr, .slice A d.args.length c]) rfl (by kernel_rfl) (by kernel_rfl) (by kernel_rfl) (fun _ _ _ h => h) (fun l w' hw hS => HLI.out _ hS) (fun _ _ => Iff.rfl) (by kernel_rfl) hS (fun w' hSw => ?_) (by kernel_rfl) (fun hS => ?_)
  · have q0 := hSw.cell 0; have q1 := hSw.cell 1; have q2 := hSw.cell 2; have q3 := hSw.cell 3; have q4 := hSw.cell 4; simp at q0 q1 q2 q3 q4; go_simp
  try simp only [Act.put, List.setIfInBounds_toArray, List.set_cons_zero, List.set_cons_succ]
  refine wpAnyS_one (i := 13) (by kernel_rfl) rfl (fun K13 hK13 => ?_)
  go_simp
  refine (CC.out _ hS).mono ?_
  rintro e w13 ⟨rfl, hb13⟩
  refine hK13.out _ _ (hS.trans (hb13.mono hS.size)) (fun hS => ?_)
  clear hK13 K13 hb13
  try simp only [Act.put, List.setIfInBounds_toArray, List.set_cons_zero, List.set_cons_succ]
  refine wpAnyS_one (i := 15) (by kernel_rfl) rfl (fun K15 hK15 => ?_)
  go_simp
  refine (CR.out _ hS).mono ?_
  rintro e w15 ⟨rfl, hb15⟩
  refine hK15.out _ _ (hS.trans (hb15.mono hS.size)) (fun hS => ?_)
  clear hK15 K15 hb15
  try simp only [Act.put, List.setIfInBounds_toArray, List.set_cons_zero, List.set_cons_succ]
  refine wpAnyS_take (i := 16) (fun _ => True) (v := .bool true) rfl (by kernel_rfl) (by kernel_rfl) (by kernel_rfl) (fun _ _ _ h => h) (fun _ _ _ _ => trivial) (fun _ _ => Iff.rfl) (by kernel_rfl) hS (fun w' hSw => ?_) (by kernel_rfl) (fun hS => ?_)
  · go_simp
  try simp only [Act.put, List.setIfInBounds_toArray, List.set_cons_zero, List.set_cons_succ]
  refine wpAnyS_take (i := 17) (fun _ => True) (v := .bool true) rfl (by kernel_rfl) (by kernel_rfl) (by kernel_rfl) (fun _ _ _ h => h) (fun _ _ _ _ => trivial) (fun _ _ => Iff.rfl) (by kernel_rfl) hS (fun w' hSw => ?_) (by kernel_rfl) (fun hS => ?_)
  · go_simp
  try simp only [Act.put, List.setIfInBounds_toArray, List.set_cons_zero, List.set_cons_succ]
  refine wpAnyS_take (i := 18) (fun _ => True) (v := .bool true) rfl (by kernel_rfl) (by kernel_rfl) (by kernel_rfl) (fun _ _ _ h => h) (fun _ _ _ _ => trivial) (fun _ _ => Iff.rfl) (by kernel_rfl) hS (fun w' hSw => ?_) (by kernel_rfl) (fun hS => ?_)
  · go_simp
  try simp only [Act.put, List.setIfInBounds_toArray, List.set_cons_zero, List.set_cons_succ]
  refine wpAnyS_take (i := 19) (fun _ => True) (v := .bool true) rfl (by kernel_rfl) (by kernel_rfl) (by kernel_rfl) (fun _ _ _ h => h) (fun _ _ _ _ => trivial) (fun _ _ => Iff.rfl) (by kernel_rfl) hS (fun w' hSw => ?_) (by kernel_rfl) (fun hS => ?_)
  · go_simp
  try simp only [Act.put, List.setIfInBounds_toArray, List.set_cons_zero, List.set_cons_succ]
  refine wpAnyS_take (i := 20) (fun _ => True) (v := .bool true) rfl (by kernel_rfl) (by kernel_rfl) (by kernel_rfl) (fun _ _ _ h => h) (fun _ _ _ _ => trivial) (fun _ _ => Iff.rfl) (by kernel_rfl) hS (fun w' hSw => ?_) (by kernel_rfl) (fun hS => ?_)
  · go_simp
  try simp only [Act.put, List.setIfInBounds_toArray, List.set_cons_zero, List.set_cons_succ]
  refine wpAnyS_take (i := 21) (fun _ => True) (v := .bool true) rfl (by kernel_rfl) (by kernel_rfl) (by kernel_rfl) (fun _ _ _ h => h) (fun _ _ _ _ => trivial) (fun _ _ => Iff.rfl) (by kernel_rfl) hS (fun w' hSw => ?_) (by kernel_rfl) (fun hS => ?_)
  · go_simp
  try simp only [Act.put, List.setIfInBounds_toArray, List.set_cons_zero, List.set_cons_succ]
  refine wpAnyS_take (i := 22) (fun _ => True) (v := .bool true) rfl (by kernel_rfl) (by kernel_rfl) (by kernel_rfl) (fun _ _ _ h => h) (fun _ _ _ _ => trivial) (fun _ _ => Iff.rfl) (by kernel_rfl) hS (fun w' hSw => ?_) (by kernel_rfl) (fun hS => ?_)
  · go_simp
  try simp only [Act.put, List.setIfInBounds_toArray, List.set_cons_zero, List.set_cons_succ]
  refine wpAnyS_take (i := 23) (fun _ => True) (v := .bool true) rfl (by kernel_rfl) (by kernel_rfl) (by kernel_rfl) (fun _ _ _ h => h) (fun _ _ _ _ => trivial) (fun _ _ => Iff.rfl) (by kernel_rfl) hS (fun w' hSw => ?_) (by kernel_rfl) (fun hS => ?_)
  · go_simp
  try simp only [Act.put, List.setIfInBounds_toArray, List.set_cons_zero, List.set_cons_succ]
  refine wpAnyS_take (i := 24) (fun _ => True) (v := .bool true) rfl (by kernel_rfl) (by kernel_rfl) (by kernel_rfl) (fun _ _ _ h => h) (fun _ _ _ _ => trivial) (fun _ _ => Iff.rfl) (by kernel_rfl) hS (fun w' hSw => ?_) (by kernel_rfl) (fun hS => ?_)
  · go_simp
  try simp only [Act.put, List.setIfInBounds_toArray, List.set_cons_zero, List.set_cons_succ]
  refine wpAnyS_done (by kernel_rfl) ?_ _
  have HP := Lib.hid (HBW.out _ hS)
  clear hS
  refine hK _ _ ?_
  clear hK
  exact prints_ret _ _ _ (by kernel_rfl) (by kernel_rfl) HP.out
end Go.Proofs.YtghbhajiddnmkaaGreatDoor
