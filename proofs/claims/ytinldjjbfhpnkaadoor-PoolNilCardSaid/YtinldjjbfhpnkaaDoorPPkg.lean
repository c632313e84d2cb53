/- A package in memory; whether its dependencies may be; whether it may be. -/
import Derived.Test.YtinldjjbfhpnkaaDoorPStr
namespace Go.Proofs.YtinldjjbfhpnkaaDoor
set_option linter.unusedSimpArgs false
set_option linter.unusedVariables false
open Go.RowKit

structure Pkg where
  name : ByteArray
  evr : ByteArray
  arch : ByteArray
  vendor : ByteArray
  ls : Nat → List Dep
  files : List ByteArray
/-- A package's twelve cells. -/
def rowP (p : Pkg) (ss : Nat → Value) (fs : Value) : Array Value := #[.string p.name, .string p.evr, .string p.arch, .string p.vendor, ss 0, ss 1, ss 2, ss 3, ss 4, ss 5, ss 6, fs]
/-- s is a slice of the dependencies ds. -/
def ListAt (w : World) (S : Nat → Prop) (ds : List Dep) (s : Value) : Prop := ∃ A c, s = .slice A ds.length c ∧ ds.length ≤ c ∧ c ≤ maxLen ∧ (A = none → c = 0) ∧ ArgsAt w S ds A
/-- s is a slice of the texts fl. -/
def FilesAt (w : World) (T : Nat → Prop) (fl : List ByteArray) (s : Value) : Prop := ∃ A c, s = .slice A fl.length c ∧ fl.length ≤ c ∧ c ≤ maxLen ∧ (A = none → c = 0) ∧ TextsAt w T fl A
structure PkgAt (w : World) (S T : Nat → Prop) (p : Pkg) (ss : Nat → Value) (fs : Value) : Prop where
  lists : ∀ i, i < 7 → ListAt w S (p.ls i) (ss i)
  files : FilesAt w T p.files fs
theorem ListAt.stay {w w' : World} {S S' : Nat → Prop} {ds : List Dep} {s : Value} (h : ListAt w S ds s) (hS : ∀ b, S b → S' b) (hw : StayS S w w') : ListAt w' S' ds s := by
  obtain ⟨A, c, h1, h2, h3, h4, h5⟩ := h
  exact ⟨A, c, h1, h2, h3, h4, h5.stay hS hw⟩
theorem FilesAt.stay {w w' : World} {T T' : Nat → Prop} {fl : List ByteArray} {s : Value} (h : FilesAt w T fl s) (hT : ∀ b, T b → T' b) (hw : StayS T w w') : FilesAt w' T' fl s := by
  obtain ⟨A, c, h1, h2, h3, h4, h5⟩ := h
  exact ⟨A, c, h1, h2, h3, h4, h5.stay hT hw⟩
theorem PkgAt.stay {w w' : World} {S S' T T' : Nat → Prop} {p : Pkg} {ss : Nat → Value} {fs : Value} (h : PkgAt w S T p ss fs) (hS : ∀ b, S b → S' b) (hT : ∀ b, T b → T' b) (hw : StayS S w w') (hw2 : StayS T w w') : PkgAt w' S' T' p ss fs :=
  ⟨fun i hi => (h.lists i hi).stay hS hw, h.files.stay hT hw2⟩
theorem PkgAt.below {w w' : World} {S T : Nat → Prop} {p : Pkg} {ss : Nat → Value} {fs : Value} (h : PkgAt w S T p ss fs) (hb : Below w.heap.size w w') : PkgAt w' S T p ss fs :=
  h.stay (fun _ h => h) (fun _ h => h) (StayS.below' hb) (StayS.below' hb)

/-! The dependencies of all kinds. -/
def ptrs (b : Nat) : Array Value := #[.pointer (some ⟨b, 4, none⟩), .pointer (some ⟨b, 5, none⟩), .pointer (some ⟨b, 6, none⟩), .pointer (some ⟨b, 7, none⟩), .pointer (some ⟨b, 8, none⟩), .pointer (some ⟨b, 9, none⟩), .pointer (some ⟨b, 10, none⟩)]
theorem results_cell {fn : Func} {t : Tmp} {e : TypeId} (h : fn.results = #[.cell t e]) (tmps : Array Value) {P : Program} {w : World} {ad : Addr} (hp : tmps[t]?.getD undef = .pointer (some ad)) :
    (results fn tmps).run P w = (loadVar e ad).run P w := by
  simp [results, h, hp, asAddr]
set_option maxRecDepth 100000 in
theorem load_ptrs {w : World} {g : Nat} {t : TypeId} {x0 x1 x2 x3 x4 x5 x6 : Value} (h : Blk w g t #[x0, x1, x2, x3, x4, x5, x6]) : (loadVar 75 ⟨g, 0, none⟩).run Tryd.prog w = .ok (.agg #[x0, x1, x2, x3, x4, x5, x6]) w := by
  have b0 := h.cell 0
  have b1 := h.cell 1
  have b2 := h.cell 2
  have b3 := h.cell 3
  have b4 := h.cell 4
  have b5 := h.cell 5
  have b6 := h.cell 6
  simp at b0 b1 b2 b3 b4 b5 b6
  clear h
  go_simp
set_option maxHeartbeats 2000000 in
set_option maxRecDepth 100000 in
theorem lists_any (b : Nat) (w : World) : Calls Tryd.prog 45 #[.pointer (some ⟨b, 0, none⟩)] w fun e w' => e = .returned (.agg (ptrs b)) ∧ Below w.heap.size w w' := by
  go_enter Tryd.func45, Tryd.ntmps45
  go_upto_region 1 with fail
  go_still_tail 22, (by kernel_rfl)
  change wpList _ _ _ _ _ (World.drew _)
  go_wp2_with fail
  refine bodyPost_ret (v := .agg (ptrs b)) ?_ rfl ⟨rfl, ((Below.refl _ _).alloc (Nat.le_refl _) _).drew⟩
  refine (results_cell rfl _ (ad := ⟨w.heap.size, 0, none⟩) rfl).trans ?_
  exact load_ptrs (Blk.drew (Blk.new w _ _))

/-! Whether they may be. -/
/-- What isNoDep may tell, where Check may answer Q. -/
def NoDep (Q : Dep → Int → Prop) (d : Dep) (b : Bool) : Prop := ∃ n, Q d n ∧ b = !decide (n = 0)
def offersOk (p : Pkg) : Bool := !(p.ls 0).any noOffer && !(p.ls 4).any (fun d => !decide (d.kind = 1))
/-- One list may be. -/
def ListOk (Q : Dep → Int → Prop) (ds : List Dep) : Prop := ds.length ≤ 16 ∧ ∀ d ∈ ds, NoDep Q d false
def ListBad (Q : Dep → Int → Prop) (ds : List Dep) : Prop := 16 < ds.length ∨ ∃ d ∈ ds, NoDep Q d true
def DepsR (Q : Dep → Int → Prop) (p : Pkg) (b : Bool) : Prop := (b = false ∧ ∃ i, i < 7 ∧ ListBad Q (p.ls i)) ∨ ((∀ i, i < 7 → ListOk Q (p.ls i)) ∧ b = offersOk p)
/-- What dep.Check answers of the dependencies of p in worlds behind w0. -/
def ChecksAt (Q : Dep → Int → Prop) (S : Nat → Prop) (p : Pkg) (w0 : World) : Prop :=
  ∀ i, i < 7 → ∀ d ∈ p.ls i, ∀ (t : Value) (w : World), Below w0.heap.size w0 w → Lay w S d t → Calls Tryd.prog 74 #[.agg (rowD d t)] w fun e w' => NumPost (Q d) e ∧ Below w.heap.size w w'
theorem ChecksAt.later {Q : Dep → Int → Prop} {S : Nat → Prop} {p : Pkg} {w0 w1 : World} (h : ChecksAt Q S p w0) (hb : Below w0.heap.size w0 w1) : ChecksAt Q S p w1 :=
  fun i hi d hd t w hw hL => h i hi d hd t w (hb.trans (hw.mono hb.size)) hL
theorem ptr_at (b : Nat) : ∀ k, k < 7 → ∀ w, (Instr.index 75 (.agg (ptrs b)) (.int .i64 ((k : Nat) : Int))).run Tryd.prog w = .ok (.pointer (some ⟨b, 4 + k, none⟩)) w
  | 0, _, w => by kernel_rfl
  | 1, _, w => by kernel_rfl
  | 2, _, w => by kernel_rfl
  | 3, _, w => by kernel_rfl
  | 4, _, w => by kernel_rfl
  | 5, _, w => by kernel_rfl
  | 6, _, w => by kernel_rfl
  | k + 7, h, w => by omega
theorem rowP_at (p : Pkg) (ss : Nat → Value) (fs : Value) : ∀ k, k < 7 → (rowP p ss fs)[4 + k]? = some (ss k)
  | 0, _ => rfl
  | 1, _ => rfl
  | 2, _ => rfl
  | 3, _ => rfl
  | 4, _ => rfl
  | 5, _ => rfl
  | 6, _ => rfl
  | k + 7, h => by omega
set_option maxHeartbeats 4000000 in
set_option maxRecDepth 100000 in
theorem mayDepend_any (Q : Dep → Int → Prop) (p : Pkg) (ss : Nat → Value) (fs : Value) (S T : Nat → Prop) (w0 : World) (hP : PkgAt w0 S T p ss fs) (hC : ChecksAt Q S p w0) :
    Calls Tryd.prog 26 #[.agg (rowP p ss fs)] w0 fun e w' => BoolPost (DepsR Q p) e ∧ Below w0.heap.size w0 w' := by
  obtain ⟨w1, hw1⟩ : ∃ w1, w1 = w0.alloc (.cells (rowP p ss fs) 26) := ⟨_, rfl⟩
  have hb0 : Below w0.heap.size w0 w1 := by rw [hw1]; exact (Below.refl _ _).alloc (Nat.le_refl _) _
  have K0 : Blk w1 w0.heap.size 26 (rowP p ss fs) := by rw [hw1]; exact Blk.new _ _ _
  have CL := Lib.hid (lists_any w0.heap.size (w0.alloc (.cells (rowP p ss fs) 26)))
  have HI := Lib.hid (ptr_at w0.heap.size)
  have HF : Hid (∀ wx, Below w1.heap.size w1 wx → Blk wx w0.heap.size 26 (rowP p ss fs) ∧ PkgAt wx S T p ss fs ∧ ChecksAt Q S p wx ∧ Below w0.heap.size w0 wx) := fun wx hb => by
    have h1 := hb0.trans (hb.mono hb0.size)
    exact ⟨K0.below hb K0.lt, hP.below h1, hC.later h1, h1⟩
  have eD := enters_of Tryd.func47 (by kernel_rfl) rfl
  have eO := enters_of Tryd.func48 (by kernel_rfl) rfl
  have eN := enters_of Tryd.func49 (by kernel_rfl) rfl
  have HE := Lib.hid (And.intro eD (And.intro eO eN))
  have HW := Lib.hid hw1
  clear hb0 K0 hP hC eD eO eN hw1
  unfold ptrs at CL HI
  unfold rowP at CL ⊢
  go_enter Tryd.func26, Tryd.ntmps26
  go_wp2_with fail
  refine CL.out.mono ?_
  rintro e w2 ⟨rfl, hb2⟩
  have HB2 : Hid (Below w1.heap.size w1 w2) := by rw [HW.out]; exact hb2
  clear hb2 CL HW
  go_wp2_with fail
  go_loopw [6] (fun v wx => ∃ k : Nat, k ≤ 7 ∧ v = .int .i64 (k : Int) ∧ Hid (∀ i, i < k → ListOk Q (p.ls i)) ∧ Hid (Below w1.heap.size w1 wx)) (fun v _ => 7 - (intOf v).toNat)
  case atStart => exact ⟨0, by omega, rfl, (show ∀ i, i < 0 → ListOk Q (p.ls i) from fun i hi => by omega), HB2⟩
  case round =>
    obtain ⟨k, hk, rfl, hok, hb⟩ := hrel
    obtain ⟨Kr, hPr, hCr, hBr⟩ := HF.out wr hb.out
    by_cases hlt : k < 7
    · have hix := HI.out k hlt
      have hc := (Kr.cell (4 + k)).trans (rowP_at p ss fs k hlt)
      obtain ⟨A, c, hs, hl1, hl2, hl3, hA⟩ := hPr.lists k hlt
      rw [hs] at hc
      have C := Lib.hid (depContains_any 47 HE.out.1 (NoDep Q) (p.ls k) A c S wr hA hl1 hl2 (fun d hd t w hb hL => isNoDep_any d t w (Q d) (fun w' hb' => hCr k hlt d hd t w' (hb.trans (hb'.mono hb.size)) (hL.stay (fun _ h => h) (StayS.below' hb')))))
      have HBr := Lib.hid hBr
      clear Kr hPr hCr hBr hs hl3 hA
      unfold maxLen at hl2
      by_cases h16 : 16 < (p.ls k).length
      · have t16 : (16 : Int) < ((p.ls k).length : Int) := by omega
        have HV : Hid (BoolPost (DepsR Q p) (.returned (.bool false))) := ⟨false, .inl ⟨rfl, k, hlt, .inl h16⟩, rfl⟩
        clear C h16
        go_wp2_with fail
        go_ret
        exact ⟨HV.out, HBr.out⟩
      · have t16 : ¬ (16 : Int) < ((p.ls k).length : Int) := by omega
        have H16 := Lib.hid h16
        clear h16
        go_wp2_with fail
        refine C.out.mono ?_
        rintro e w3 ⟨⟨bb, ha, rfl⟩, hb3⟩
        have HB3 : Hid (Below w1.heap.size w1 w3) := hb.out.trans (hb3.mono hb.out.size)
        have HB3w : Hid (Below w0.heap.size w0 w3) := HBr.out.trans (hb3.mono HBr.out.size)
        clear hb3 C
        rcases ha with ⟨rfl, d, hd, hg⟩ | ⟨rfl, hg⟩
        · have HV : Hid (BoolPost (DepsR Q p) (.returned (.bool false))) := ⟨false, .inl ⟨rfl, k, hlt, .inr ⟨d, hd, hg⟩⟩, rfl⟩
          clear hg hd hc hix
          go_wp2_with fail
          go_ret
          exact ⟨HV.out, HB3w.out⟩
        · have HN : Hid (∀ i, i < k + 1 → ListOk Q (p.ls i)) := fun i hi => by
            rcases Nat.lt_or_ge i k with h | h
            · exact hok.out i h
            · obtain rfl : i = k := by omega
              exact ⟨by have := H16.out; omega, hg⟩
          clear hg hc hix hok
          go_wp2_with fail
          go_roundw
          case rel => exact ⟨k + 1, by omega, by go_num, HN, HB3⟩
          case measure => simp [intOf]; omega
    · obtain rfl : k = 7 := by omega
      clear hlt
      have c4 := (Kr.cell (4 + 0)).trans (rowP_at p ss fs 0 (by omega))
      have c8 := (Kr.cell (4 + 4)).trans (rowP_at p ss fs 4 (by omega))
      obtain ⟨A0, n0, hs0, hl01, hl02, hl03, hA0⟩ := hPr.lists 0 (by omega)
      obtain ⟨A4, n4, hs4, hl41, hl42, hl43, hA4⟩ := hPr.lists 4 (by omega)
      rw [hs0] at c4
      rw [hs4] at c8
      have HX : Hid (∀ wx, Below wr.heap.size wr wx → wx.cell? ⟨w0.heap.size, 8, none⟩ = some (.slice A4 (p.ls 4).length n4) ∧ ArgsAt wx S (p.ls 4) A4 ∧ Below w0.heap.size w0 wx) := fun wx hbx => by
        refine ⟨(World.cell?_of_block (hbx.block _ Kr.lt)).trans c8, hA4.stay (fun _ h => h) (StayS.below' hbx), hBr.trans (hbx.mono hBr.size)⟩
      have C0 := Lib.hid (depContains_any 48 HE.out.2.1 (fun d b => b = noOffer d) (p.ls 0) A0 n0 S wr hA0 hl01 hl02 (fun d hd t w hb hL => (isNoOffer_any d t w).mono fun e w' h => ⟨⟨_, rfl, h.1⟩, h.2⟩))
      have HBr := Lib.hid hBr
      clear Kr hPr hCr hBr hs0 hs4 hl03 hl43 hA0 hA4 c8
      simp only [Nat.add_zero] at c4
      go_wp2_with fail
      refine C0.out.mono ?_
      rintro e w3 ⟨⟨b0, ha0, rfl⟩, hb3⟩
      obtain ⟨c8, hA4, hB3⟩ := HX.out w3 hb3
      have h0 := ha0.det (fun _ _ h => h)
      have HB3 := Lib.hid hB3
      clear hb3 C0 HX c4 ha0 hB3
      cases b0 with
      | true =>
        have HV : Hid (BoolPost (DepsR Q p) (.returned (.bool false))) := ⟨false, .inr ⟨hok.out, by unfold offersOk; rw [← h0]; rfl⟩, rfl⟩
        clear h0 hA4
        go_wp2_with fail
        go_ret
        exact ⟨HV.out, HB3.out⟩
      | false =>
        have C4 := Lib.hid (depContains_any 49 HE.out.2.2 (fun d b => b = !decide (d.kind = 1)) (p.ls 4) A4 n4 S w3 hA4 hl41 hl42 (fun d hd t w hb hL => (isNoName_any d t w).mono fun e w' h => ⟨⟨_, rfl, h.1⟩, h.2⟩))
        have H0 := Lib.hid h0
        clear h0 hA4
        go_wp2_with fail
        refine C4.out.mono ?_
        rintro e w4 ⟨⟨b4, ha4, rfl⟩, hb4⟩
        have h4 := ha4.det (fun _ _ h => h)
        have HB4 : Hid (Below w0.heap.size w0 w4) := HB3.out.trans (hb4.mono HB3.out.size)
        have HV : Hid (BoolPost (DepsR Q p) (.returned (.bool (!b4)))) := ⟨_, .inr ⟨hok.out, by unfold offersOk; rw [← H0.out, ← h4]; simp⟩, rfl⟩
        clear hb4 C4 c8 ha4 h4
        go_wp2_with fail
        go_ret
        exact ⟨HV.out, HB4.out⟩
end Go.Proofs.YtinldjjbfhpnkaaDoor
