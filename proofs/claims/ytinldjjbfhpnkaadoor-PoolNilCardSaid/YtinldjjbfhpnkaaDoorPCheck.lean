/- Whether a package may be: Check. -/
import Derived.Test.YtinldjjbfhpnkaaDoorPPkg
namespace Go.Proofs.YtinldjjbfhpnkaaDoor
set_option linter.unusedSimpArgs false
set_option linter.unusedVariables false
open Go.RowKit

def filesBad (fl : List ByteArray) : Bool := decide (16 < fl.length) || fl.any noFile
/-- The errors ahead of the dependencies. -/
def headN (p : Pkg) : Int := if nameB p.name.data.toList = false then 60 else if evrB p.evr.data.toList = false then 61 else if archB p.arch = false then 62 else if vendorB p.vendor = false then 63 else 0
def chkN (p : Pkg) (b : Bool) : Int := if headN p ≠ 0 then headN p else if b = false then 64 else if filesBad p.files = true then 65 else 0
/-- What Check may answer. -/
def ChkR (Q : Dep → Int → Prop) (p : Pkg) (n : Int) : Prop := ∃ b, (headN p = 0 → DepsR Q p b) ∧ n = chkN p b
theorem ChkR.head {Q : Dep → Int → Prop} {p : Pkg} (h : headN p ≠ 0) : ChkR Q p (headN p) := ⟨true, fun e => absurd e h, by unfold chkN; rw [if_pos h]⟩
theorem ChkR.deps {Q : Dep → Int → Prop} {p : Pkg} (h : headN p = 0) (hd : DepsR Q p false) : ChkR Q p 64 := ⟨false, fun _ => hd, by unfold chkN; rw [if_neg (by simp [h]), if_pos rfl]⟩
theorem ChkR.files {Q : Dep → Int → Prop} {p : Pkg} (h : headN p = 0) (hd : DepsR Q p true) (hf : filesBad p.files = true) : ChkR Q p 65 := ⟨true, fun _ => hd, by unfold chkN; rw [if_neg (by simp [h]), if_neg (by simp), if_pos hf]⟩
theorem ChkR.ok {Q : Dep → Int → Prop} {p : Pkg} (h : headN p = 0) (hd : DepsR Q p true) (hf : filesBad p.files = false) : ChkR Q p 0 := ⟨true, fun _ => hd, by unfold chkN; rw [if_neg (by simp [h]), if_neg (by simp), if_neg (by simp [hf])]⟩
set_option maxHeartbeats 4000000 in
set_option maxRecDepth 100000 in
theorem poolCheck_any (Q : Dep → Int → Prop) (p : Pkg) (ss : Nat → Value) (fs : Value) (S T : Nat → Prop) (w0 : World) (hP : PkgAt w0 S T p ss fs) (hC : ChecksAt Q S p w0) (hT : Tabs w0) :
    Calls Tryd.prog 9 #[.agg (rowP p ss fs)] w0 fun e w' => NumPost (ChkR Q p) e ∧ Below w0.heap.size w0 w' := by
  obtain ⟨w1, hw1⟩ : ∃ w1, w1 = w0.alloc (.cells (rowP p ss fs) 26) := ⟨_, rfl⟩
  have hb0 : Below w0.heap.size w0 w1 := by rw [hw1]; exact (Below.refl _ _).alloc (Nat.le_refl _) _
  have K0 : Blk w1 w0.heap.size 26 (rowP p ss fs) := by rw [hw1]; exact Blk.new _ _ _
  have CE := Lib.hid (parse_any p.evr (w0.alloc (.cells (rowP p ss fs) 26)))
  have HF : Hid (∀ wx, Below w1.heap.size w1 wx → Blk wx w0.heap.size 26 (rowP p ss fs) ∧ PkgAt wx S T p ss fs ∧ ChecksAt Q S p wx ∧ Tabs wx ∧ Below w0.heap.size w0 wx) := fun wx hb => by
    have h1 := hb0.trans (hb.mono hb0.size)
    exact ⟨K0.below hb K0.lt, hP.below h1, hC.later h1, hT.below h1 hT.two, h1⟩
  have HW := Lib.hid hw1
  have HE := Lib.hid (enters_of Tryd.func28 (by kernel_rfl) rfl)
  obtain ⟨ea, eb, ec, hev⟩ := evrV_agg (parse p.evr.data.toList)
  rw [hev] at CE
  have hee := errV_ok p.evr.data.toList
  obtain ⟨n, hn⟩ : ∃ n, n = errV (parse p.evr.data.toList) := ⟨_, rfl⟩
  rw [← hn] at CE hee
  have HEE := Lib.hid hee
  obtain ⟨A, c, rfl, hl1, hl2, hl3, hA⟩ := hP.files
  have HFl := Lib.hid (And.intro hl1 (And.intro hl2 hA))
  clear hb0 K0 hP hC hT hw1 hev hee hn hl1 hl2 hl3 hA
  unfold rowP at CE ⊢
  go_enter Tryd.func9, Tryd.ntmps9
  go_wp2_with fail
  refine CE.out.mono ?_
  rintro e w2 ⟨rfl, hb2⟩
  have HB2 : Hid (Below w1.heap.size w1 w2) := by rw [HW.out]; exact hb2
  clear hb2 CE HW
  have hb3 : Below w1.heap.size w1 (w2.alloc (.cells #[.string ea, .string eb, .string ec] 51)) := HB2.out.alloc HB2.out.size _
  obtain ⟨K3, hP3, hC3, hT3, hB3⟩ := HF.out _ hb3
  have k0 := K3.cell 0
  have k1 := K3.cell 1
  have k2 := K3.cell 2
  have k3 := K3.cell 3
  unfold rowP at k0 k1 k2 k3
  simp at k0 k1 k2 k3
  have CN := Lib.hid (name_any p.name _ hT3)
  have HB3 := Lib.hid hb3
  clear K3 hP3 hC3 hT3 hB3 hb3
  go_upto_region 2 with fail
  generalize w2.alloc (.cells #[.string ea, .string eb, .string ec] 51) = w3 at *
  go_wp2_with fail
  refine CN.out.mono ?_
  rintro e w4 ⟨rfl, hb4⟩
  have HB4 : Hid (Below w1.heap.size w1 w4) := HB3.out.trans (hb4.mono HB3.out.size)
  clear hb4 CN HB3 k0 k1 k2 k3
  obtain ⟨K4, hP4, hC4, hT4, hB4⟩ := HF.out _ HB4.out
  have HB4w := Lib.hid hB4
  cases hname : nameB p.name.data.toList with
  | false =>
    have HV : Hid (NumPost (ChkR Q p) (.returned (.int .i64 60))) := by
      have h : headN p = 60 := by unfold headN; rw [if_pos hname]
      exact ⟨60, h ▸ ChkR.head (by rw [h]; decide), rfl⟩
    clear hname K4 hP4 hC4 hT4 hB4
    go_wp2_with fail
    go_ret
    exact ⟨HV.out, HB4w.out⟩
  | true =>
  cases hevr : evrB p.evr.data.toList with
  | false =>
    have hne : (n == 0) = false := by rw [HEE.out, hevr]
    have hne' : (n != 0) = true := by simpa using hne
    have HV : Hid (NumPost (ChkR Q p) (.returned (.int .i64 61))) := by
      have h : headN p = 61 := by unfold headN; rw [if_neg (by simp [hname]), if_pos hevr]
      exact ⟨61, h ▸ ChkR.head (by rw [h]; decide), rfl⟩
    clear hname hevr K4 hP4 hC4 hT4 hB4
    go_wp2_with fail
    go_ret
    exact ⟨HV.out, HB4w.out⟩
  | true =>
  have hne : (n == 0) = true := by rw [HEE.out, hevr]
  have hne' : (n != 0) = false := by simpa using hne
  have k2 := K4.cell 2
  unfold rowP at k2
  simp at k2
  have CA := Lib.hid (isArch_any p.arch w4)
  have HH := Lib.hid (And.intro hname hevr)
  clear hname hevr K4 hP4 hC4 hT4 hB4
  go_wp2_with fail
  refine CA.out.mono ?_
  rintro e w5 ⟨rfl, hb5⟩
  have HB5 : Hid (Below w1.heap.size w1 w5) := HB4.out.trans (hb5.mono HB4.out.size)
  clear hb5 CA k2 HB4 HB4w hne hne'
  obtain ⟨K5, hP5, hC5, hT5, hB5⟩ := HF.out _ HB5.out
  have HB5w := Lib.hid hB5
  cases harch : archB p.arch with
  | false =>
    have HV : Hid (NumPost (ChkR Q p) (.returned (.int .i64 62))) := by
      have h : headN p = 62 := by unfold headN; rw [if_neg (by simp [HH.out.1]), if_neg (by simp [HH.out.2]), if_pos harch]
      exact ⟨62, h ▸ ChkR.head (by rw [h]; decide), rfl⟩
    clear harch K5 hP5 hC5 hT5 hB5
    go_wp2_with fail
    go_ret
    exact ⟨HV.out, HB5w.out⟩
  | true =>
  have k3 := K5.cell 3
  unfold rowP at k3
  simp at k3
  have CV := Lib.hid (isVendor_any p.vendor w5)
  have HA := Lib.hid harch
  clear harch K5 hP5 hC5 hT5 hB5
  go_wp2_with fail
  refine CV.out.mono ?_
  rintro e w6 ⟨rfl, hb6⟩
  have HB6 : Hid (Below w1.heap.size w1 w6) := HB5.out.trans (hb6.mono HB5.out.size)
  clear hb6 CV k3 HB5 HB5w
  obtain ⟨K6, hP6, hC6, hT6, hB6⟩ := HF.out _ HB6.out
  have HB6w := Lib.hid hB6
  cases hven : vendorB p.vendor with
  | false =>
    have HV : Hid (NumPost (ChkR Q p) (.returned (.int .i64 63))) := by
      have h : headN p = 63 := by unfold headN; rw [if_neg (by simp [HH.out.1]), if_neg (by simp [HH.out.2]), if_neg (by simp [HA.out]), if_pos hven]
      exact ⟨63, h ▸ ChkR.head (by rw [h]; decide), rfl⟩
    clear hven K6 hP6 hC6 hT6 hB6
    go_wp2_with fail
    go_ret
    exact ⟨HV.out, HB6w.out⟩
  | true =>
  have H0 : Hid (headN p = 0) := by
    show headN p = 0
    unfold headN
    rw [if_neg (by simp [HH.out.1]), if_neg (by simp [HH.out.2]), if_neg (by simp [HA.out]), if_neg (by simp [hven])]
  have CD := Lib.hid (mayDepend_any Q p ss (.slice A p.files.length c) S T w6 hP6 hC6)
  have q0 := K6.cell 0
  have q1 := K6.cell 1
  have q2 := K6.cell 2
  have q3 := K6.cell 3
  have q4 := K6.cell 4
  have q5 := K6.cell 5
  have q6 := K6.cell 6
  have q7 := K6.cell 7
  have q8 := K6.cell 8
  have q9 := K6.cell 9
  have q10 := K6.cell 10
  have q11 := K6.cell 11
  unfold rowP at CD q0 q1 q2 q3 q4 q5 q6 q7 q8 q9 q10 q11
  simp at q0 q1 q2 q3 q4 q5 q6 q7 q8 q9 q10 q11
  have HSS : Hid (∀ i, i < 7 → ∃ B m, ss i = .slice B (p.ls i).length m) := fun i hi => by
    obtain ⟨B, m, h, _⟩ := hP6.lists i hi
    exact ⟨B, m, h⟩
  clear hven K6 hP6 hC6 hT6 hB6 HH HA
  obtain ⟨B0, m0, s0⟩ := HSS.out 0 (by omega)
  obtain ⟨B1, m1, s1⟩ := HSS.out 1 (by omega)
  obtain ⟨B2, m2, s2⟩ := HSS.out 2 (by omega)
  obtain ⟨B3, m3, s3⟩ := HSS.out 3 (by omega)
  obtain ⟨B4, m4, s4⟩ := HSS.out 4 (by omega)
  obtain ⟨B5, m5, s5⟩ := HSS.out 5 (by omega)
  obtain ⟨B6, m6, s6⟩ := HSS.out 6 (by omega)
  rw [s0, s1, s2, s3, s4, s5, s6] at CD
  rw [s0] at q4
  rw [s1] at q5
  rw [s2] at q6
  rw [s3] at q7
  rw [s4] at q8
  rw [s5] at q9
  rw [s6] at q10
  clear s0 s1 s2 s3 s4 s5 s6 HSS
  go_wp2_with fail
  refine CD.out.mono ?_
  rintro e w7 ⟨⟨b, hd, rfl⟩, hb7⟩
  have HB7 : Hid (Below w1.heap.size w1 w7) := HB6.out.trans (hb7.mono HB6.out.size)
  have HD := Lib.hid hd
  clear hb7 CD HB6 HB6w hd q0 q1 q2 q3 q4 q5 q6 q7 q8 q9 q10 q11
  obtain ⟨K7, hP7, hC7, hT7, hB7⟩ := HF.out _ HB7.out
  have HB7w := Lib.hid hB7
  cases b with
  | false =>
    have HV : Hid (NumPost (ChkR Q p) (.returned (.int .i64 64))) := ⟨64, ChkR.deps H0.out HD.out, rfl⟩
    clear K7 hP7 hC7 hT7 hB7
    go_wp2_with fail
    go_ret
    exact ⟨HV.out, HB7w.out⟩
  | true =>
  have r11 := K7.cell 11
  unfold rowP at r11
  simp at r11
  obtain ⟨Af, cf, hfe, hf1, hf2, hf3, hfA⟩ := hP7.files
  injection hfe with e1 e2 e3
  subst e1; subst e3
  have CF := Lib.hid (strContains_any 28 HE.out (fun s b => b = noFile s) p.files A c T w7 hfA hf1 hf2 (fun s hs w hb => (isNoFile_any s w (hT7.below hb hT7.two)).mono fun e w' h => ⟨⟨_, rfl, h.1⟩, h.2⟩))
  clear K7 hP7 hC7 hT7 hB7 hfA e2 hf3
  unfold maxLen at hf2
  by_cases h16 : 16 < p.files.length
  · have t16 : (16 : Int) < (p.files.length : Int) := by omega
    have HV : Hid (NumPost (ChkR Q p) (.returned (.int .i64 65))) := ⟨65, ChkR.files H0.out HD.out (by unfold filesBad; simp [h16]), rfl⟩
    clear h16 CF
    go_wp2_with fail
    go_ret
    exact ⟨HV.out, HB7w.out⟩
  · have t16 : ¬ (16 : Int) < (p.files.length : Int) := by omega
    have H16 := Lib.hid h16
    clear h16
    go_wp2_with fail
    refine CF.out.mono ?_
    rintro e w8 ⟨⟨b, ha, rfl⟩, hb8⟩
    have hv := ha.det (fun _ _ h => h)
    have HB8 : Hid (Below w0.heap.size w0 w8) := HB7w.out.trans (hb8.mono HB7w.out.size)
    clear hb8 CF ha r11
    cases b with
    | true =>
      have HV : Hid (NumPost (ChkR Q p) (.returned (.int .i64 65))) := ⟨65, ChkR.files H0.out HD.out (by unfold filesBad; rw [← hv]; simp), rfl⟩
      clear hv
      go_wp2_with fail
      go_ret
      exact ⟨HV.out, HB8.out⟩
    | false =>
      have HV : Hid (NumPost (ChkR Q p) (.returned (.int .i64 0))) := ⟨0, ChkR.ok H0.out HD.out (by unfold filesBad; rw [← hv]; simp [H16.out]), rfl⟩
      clear hv
      go_wp2_with fail
      go_ret
      exact ⟨HV.out, HB8.out⟩
end Go.Proofs.YtinldjjbfhpnkaaDoor
