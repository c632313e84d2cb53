/- DepReads: the walk of the law. -/
import Derived.Test.YtghbhajiddnmkaaDoorDRefIJ
namespace Go.Proofs.YtghbhajiddnmkaaDoor
set_option linter.unusedSimpArgs false
set_option linter.unusedVariables false
open Go.RowKit

def pD (l : Wd) : Dep := (parseD l).1.getD zeroD
def pE (l : Wd) : Int := (parseD l).2
def Gave (l : Wd) (w0 : World) (e : Ending) (w' : World) : Prop := Below w0.heap.size w0 w' ∧ ∃ A c S, e = .returned (.tuple #[.agg (rowD (pD l) (.slice A (pD l).args.length c)), .int .i64 (pE l)]) ∧ Lay w' S (pD l) (.slice A (pD l).args.length c)
theorem gave_code {text : ByteArray} {w0 w' : World} {e : Ending} (h : ParsePost text w0 e w') : Gave text.data.toList w0 e w' := by
  obtain ⟨hb, ⟨d, t, ⟨h1, S, hL, _, _, _⟩, rfl⟩ | ⟨n, h1, rfl⟩⟩ := h
  · obtain ⟨A, c, rfl, _, _⟩ := hL.form_
    have e1 : pD text.data.toList = d := by unfold pD; rw [h1]; rfl
    have e2 : pE text.data.toList = 0 := by unfold pE; rw [h1]
    exact ⟨hb, A, c, S, by rw [e1, e2], by rw [e1]; exact hL⟩
  · have e1 : pD text.data.toList = zeroD := by unfold pD; rw [h1]; rfl
    have e2 : pE text.data.toList = n := by unfold pE; rw [h1]
    exact ⟨hb, none, 0, fun _ => False, by rw [e1, e2]; rfl, by rw [e1]; exact Lay.none_ _ _ _ _ _ _⟩
theorem gave_ref {text : ByteArray} {w0 w' : World} {e : Ending} (h : GotP text w0 e w') : Gave text.data.toList w0 e w' := by
  obtain ⟨hb, ⟨d, A, c, S, h1, rfl, hL⟩ | ⟨n, h1, rfl⟩⟩ := h
  · have e1 : pD text.data.toList = d := by unfold pD; rw [h1]; rfl
    have e2 : pE text.data.toList = 0 := by unfold pE; rw [h1]
    exact ⟨hb, A, c, S, by rw [e1, e2], by rw [e1]; exact hL⟩
  · have e1 : pD text.data.toList = zeroD := by unfold pD; rw [h1]; rfl
    have e2 : pE text.data.toList = n := by unfold pE; rw [h1]
    exact ⟨hb, none, 0, fun _ => False, by rw [e1, e2]; rfl, by rw [e1]; exact Lay.none_ _ _ _ _ _ _⟩
set_option maxHeartbeats 2000000 in
set_option maxRecDepth 100000 in
theorem depReads_any (s : ByteArray) (hs : s.size ≤ 4194304) (W : World) (hT : Tabs W) : Calls Tryd.prog 4 #[.string s] W (TrueBelow W) := by
  have C1 := Lib.hid (depAwake_any W hT)
  have HT := Lib.hid hT
  have C2 := Lib.hid (fun w hT => (depParse_any s hs w hT).mono fun e w' h => gave_code h)
  have C3 := Lib.hid (fun w => (refParseD_any s hs w).mono fun e w' h => gave_ref h)
  have C4 := Lib.hid (refSame_any (pD s.data.toList))
  have C5 := Lib.hid (fun w hT => name_any s w hT)
  have C6 := Lib.hid (fun w => refNameD_any s (by unfold maxLen; omega) w)
  unfold Gave at C2 C3
  unfold SameOk at C4
  generalize pD s.data.toList = D at C2 C3 C4
  generalize pE s.data.toList = E at C2 C3
  generalize nameB s.data.toList = nb at C5 C6
  clear hT
  go_enter Tryd.func4, Tryd.ntmps4
  go_wp2_with fail
  refine C1.out.mono ?_
  rintro e w1 ⟨rfl, hb1⟩
  have hT1 := HT.out.below hb1 HT.out.two
  have HT1 := Lib.hid hT1
  have HB1 := Lib.hid hb1
  clear hb1 hT1 C1
  go_wp2_with fail
  refine (C2.out w1 HT1.out).mono ?_
  rintro e w2 ⟨hb2, A1, c1, S1, rfl, hL1⟩
  have hba : Below w2.heap.size w2 (w2.alloc (.cells (rowD D (.slice A1 D.args.length c1)) 25)) := (Below.refl _ _).alloc (Nat.le_refl _) _
  have HL1 := Lib.hid (hL1.stay (fun _ h => h) (StayS.below' (S := S1) hba))
  have HK1 := Lib.hid (Blk.new w2 25 (rowD D (.slice A1 D.args.length c1)))
  have HB2 : Hid (Below W.heap.size W (w2.alloc (.cells (rowD D (.slice A1 D.args.length c1)) 25))) := by
    have h1 := HB1.out.trans (hb2.mono HB1.out.size)
    exact h1.alloc h1.size _
  clear hb2 hL1 hba C2 HB1 HT1
  unfold rowD at HL1 HK1 HB2 ⊢
  go_wp2_with fail
  refine (C3.out _).mono ?_
  rintro e w3 ⟨hb3, A2, c2, S2, rfl, hL2⟩
  have hbb : Below w3.heap.size w3 (w3.alloc (.cells (rowD D (.slice A2 D.args.length c2)) 25)) := (Below.refl _ _).alloc (Nat.le_refl _) _
  have hz3 := hb3.size
  simp at hz3
  have HK2 := Lib.hid (HK1.out.below hb3 HK1.out.lt)
  have HB3 : Hid (Below W.heap.size W (w3.alloc (.cells (rowD D (.slice A2 D.args.length c2)) 25))) := by
    have h1 := HB2.out.trans (hb3.mono HB2.out.size)
    exact h1.alloc h1.size _
  have HC4 := Lib.hid (C4.out _ _ S1 S2 (w3.alloc (.cells (rowD D (.slice A2 D.args.length c2)) 25)) ((HL1.out.stay (fun _ h => h) (StayS.below' hb3)).stay (fun _ h => h) (StayS.below' hbb)) (hL2.stay (fun _ h => h) (StayS.below' hbb)))
  have k0 := HK2.out.cell 0
  have k1 := HK2.out.cell 1
  have k2 := HK2.out.cell 2
  have k3 := HK2.out.cell 3
  have k4 := HK2.out.cell 4
  unfold rowD at k0 k1 k2 k3 k4 HC4 HB3 ⊢
  have hlt : w2.heap.size < w3.heap.size := by omega
  simp at k0 k1 k2 k3 k4
  clear hb3 hL2 hbb C3 C4 HL1 HK1 HB2 HK2 hz3
  go_wp2_with fail
  refine HC4.out.mono ?_
  rintro e w4 ⟨rfl, hb4⟩
  have HB4 : Hid (Below W.heap.size W w4) := HB3.out.trans (hb4.mono HB3.out.size)
  have hT4 := Lib.hid (HT.out.below HB4.out HT.out.two)
  clear hb4 HC4 HB3 k0 k1 k2 k3 k4 hlt
  go_wp2_with fail
  refine (C5.out w4 hT4.out).mono ?_
  rintro e w5 ⟨rfl, hb5⟩
  have HB5 : Hid (Below W.heap.size W w5) := HB4.out.trans (hb5.mono HB4.out.size)
  clear hb5 C5 HB4 hT4
  go_wp2_with fail
  refine (C6.out w5).mono ?_
  rintro e w6 ⟨rfl, rfl⟩
  go_wp2_with fail
  go_ret
  exact ⟨by simp, HB5.out⟩
theorem depReads_walk {H : Type} {enc : TypeId × Value → H} (W : World) {v0 : Value} {d0 : DataW H} (h0 : In enc Tryd.prog W 9 v0 d0) (hL : laidMetH Tryd.prog Rows.depReadsUptoRow.laid W) (hk : Rows.uptoBulkAll [d0] ≤ 1048576) :
    Calls Tryd.prog 4 #[v0] W (TrueBelow W) := by
  obtain ⟨s, rfl, rfl, _⟩ := h0.string Tryd.underlying9
  have hz : s.size ≤ 4194304 := by
    simp only [Rows.uptoBulkAll, Rows.uptoBulk] at hk
    rw [size_len] at hk
    omega
  rw [MakeChecks.laidMetH_plain _ _ _ (by kernel_rfl)] at hL
  exact depReads_any s hz W (tabs_of hL (by simp [Rows.depReadsUptoRow]) (by simp [Rows.depReadsUptoRow]))
end Go.Proofs.YtghbhajiddnmkaaDoor
