/- Which texts an architecture, a vendor, a file may be; which dependencies a package may have. A package in memory; whether its dependencies may be; whether it may be. Whether a package may be: Check. The reference's Same of dependencies, Lists, SameTexts. -/
import Derived.Test.YtljldbdjkjllhaaGreatDoorZbc
import Derived.Test.YtljldbdjkjllhaaGreatDoorZba
import Derived.StillTailTactics
import Derived.Deep.QuietTactic
import Derived.BigQuiet
/- Which texts an architecture, a vendor, a file may be; which dependencies a package may have. -/
namespace Go.Proofs.YtljldbdjkjllhaaGreatDoor.Ev
set_option linter.unusedSimpArgs false
set_option linter.unusedVariables false
open Go.RowKit

def archOther (x : Nat) : Bool := (decide (x < 97) || decide (122 < x)) && (decide (x < 48) || decide (57 < x)) && !decide (x = 95)
def vendorOther (x : Nat) : Bool := decide (x < 32) || decide (126 < x)
set_option maxRecDepth 100000 in
theorem archOther_any (x : Nat) (hx : x ≤ 1114111) (w : World) : Calls Tryz.prog 127 #[.int .i32 (x : Int)] w fun e w' => e = .returned (.bool (archOther x)) ∧ w = w' := by
  obtain ⟨y, hy⟩ : ∃ y, y = archOther x := ⟨_, rfl⟩
  rw [← hy]
  have h := Lib.hid hy
  clear hy
  go_enter Tryz.func127, Tryz.ntmps127
  go_wp2_with fail
  all_goals
    go_ret
    refine ⟨ret_bool ?_, rfl⟩
    rw [h.out, Bool.eq_iff_iff]
    simp [archOther] <;> omega
set_option maxRecDepth 100000 in
theorem vendorOther_any (x : Nat) (hx : x ≤ 1114111) (w : World) : Calls Tryz.prog 129 #[.int .i32 (x : Int)] w fun e w' => e = .returned (.bool (vendorOther x)) ∧ w = w' := by
  obtain ⟨y, hy⟩ : ∃ y, y = vendorOther x := ⟨_, rfl⟩
  rw [← hy]
  have h := Lib.hid hy
  clear hy
  go_enter Tryz.func129, Tryz.ntmps129
  go_wp2_with fail
  all_goals
    go_ret
    refine ⟨ret_bool ?_, rfl⟩
    rw [h.out, Bool.eq_iff_iff]
    simp [vendorOther] <;> omega
/-- Has a text a rune of a kind? -/
def hasRune (p : Nat → Bool) (s : ByteArray) : Bool := decide (0 ≤ Lib.idxFunc p true s)
def archB (s : ByteArray) : Bool := decide (s.size ≠ 0) && decide (s.size ≤ 20) && !hasRune archOther s
def vendorB (s : ByteArray) : Bool := decide (s.size ≤ 60) && !hasRune vendorOther s
set_option maxHeartbeats 1000000 in
set_option maxRecDepth 100000 in
theorem isArch_any (s : ByteArray) (w : World) : Calls Tryz.prog 67 #[.string s] w fun e w' => e = .returned (.bool (archB s)) ∧ Below w.heap.size w w' := by
  have C0 : ∀ W, Calls Tryz.prog 128 #[.string s, .func (.func 127) #[] #[]] W fun e w' => e = .returned (.bool (hasRune archOther s)) ∧ Below W.heap.size W w' := fun W =>
    Tryz.strings_ContainsFunc_grows 127 #[] (enters_of Tryz.func127 (by kernel_rfl) rfl) archOther s W (fun W' x hx _ => (archOther_any x hx W').mono fun e w' h => ⟨h.1, by rw [← h.2]; exact Below.refl _ _⟩)
  have C := Lib.hid C0
  clear C0
  obtain ⟨x, hx⟩ : ∃ x, x = archB s := ⟨_, rfl⟩
  rw [← hx]
  have HX := Lib.hid hx
  clear hx
  by_cases h0 : s.size = 0
  · have HV : Hid (x = false) := HX.out.trans (by simp [archB, h0])
    obtain rfl := empty_of h0
    clear HX h0 C
    go_enter Tryz.func67, Tryz.ntmps67
    go_wp2_with fail
    go_ret
    exact ⟨by rw [HV.out]; rfl, Below.refl _ _⟩
  obtain ⟨b1, b2, b3⟩ := blank_of h0
  by_cases h20 : s.size ≤ 20
  · have HV : Hid (x = !hasRune archOther s) := HX.out.trans (by simp [archB, h0, h20])
    have t20 : (s.size : Int) ≤ 20 := by omega
    clear HX
    generalize hasRune archOther s = y at C HV
    go_enter Tryz.func67, Tryz.ntmps67
    go_wp2_with fail
    refine (C.out _).mono ?_
    rintro e w1 ⟨rfl, hb1⟩
    have HB := Lib.hid hb1
    clear hb1 C
    go_wp2_with fail
    go_ret
    exact ⟨by rw [HV.out]; rfl, HB.out⟩
  · have HV : Hid (x = false) := HX.out.trans (by simp [archB, h20])
    have t20 : ¬ (s.size : Int) ≤ 20 := by omega
    clear HX C
    go_enter Tryz.func67, Tryz.ntmps67
    go_wp2_with fail
    go_ret
    exact ⟨by rw [HV.out]; rfl, Below.refl _ _⟩
set_option maxHeartbeats 1000000 in
set_option maxRecDepth 100000 in
theorem isVendor_any (s : ByteArray) (w : World) : Calls Tryz.prog 68 #[.string s] w fun e w' => e = .returned (.bool (vendorB s)) ∧ Below w.heap.size w w' := by
  have C0 : ∀ W, Calls Tryz.prog 128 #[.string s, .func (.func 129) #[] #[]] W fun e w' => e = .returned (.bool (hasRune vendorOther s)) ∧ Below W.heap.size W w' := fun W =>
    Tryz.strings_ContainsFunc_grows 129 #[] (enters_of Tryz.func129 (by kernel_rfl) rfl) vendorOther s W (fun W' x hx _ => (vendorOther_any x hx W').mono fun e w' h => ⟨h.1, by rw [← h.2]; exact Below.refl _ _⟩)
  have C := Lib.hid C0
  clear C0
  obtain ⟨x, hx⟩ : ∃ x, x = vendorB s := ⟨_, rfl⟩
  rw [← hx]
  have HX := Lib.hid hx
  clear hx
  by_cases h20 : s.size ≤ 60
  · have HV : Hid (x = !hasRune vendorOther s) := HX.out.trans (by simp [vendorB, h20])
    have t20 : (s.size : Int) ≤ 60 := by omega
    clear HX
    generalize hasRune vendorOther s = y at C HV
    go_enter Tryz.func68, Tryz.ntmps68
    go_wp2_with fail
    refine (C.out _).mono ?_
    rintro e w1 ⟨rfl, hb1⟩
    have HB := Lib.hid hb1
    clear hb1 C
    go_wp2_with fail
    go_ret
    exact ⟨by rw [HV.out]; rfl, HB.out⟩
  · have HV : Hid (x = false) := HX.out.trans (by simp [vendorB, h20])
    have t20 : ¬ (s.size : Int) ≤ 60 := by omega
    clear HX C
    go_enter Tryz.func68, Tryz.ntmps68
    go_wp2_with fail
    go_ret
    exact ⟨by rw [HV.out]; rfl, Below.refl _ _⟩
/-- May a text be no file's? -/
def noFile (s : ByteArray) : Bool := !Lib.hasPrefix s.data.toList [47] || !nameB s.data.toList
set_option maxHeartbeats 1000000 in
set_option maxRecDepth 100000 in
theorem isNoFile_any (s : ByteArray) (w : World) (hT : Tabs w) : Calls Tryz.prog 71 #[.string s] w fun e w' => e = .returned (.bool (noFile s)) ∧ Below w.heap.size w w' := by
  have CP := Lib.hid (Tryz.strings_HasPrefix s ⟨#[47]⟩ w)
  have CN := Lib.hid (name_any s w hT)
  clear hT
  obtain ⟨x, hx⟩ : ∃ x, x = noFile s := ⟨_, rfl⟩
  rw [← hx]
  have HX := Lib.hid hx
  clear hx
  unfold noFile at HX
  go_enter Tryz.func71, Tryz.ntmps71
  go_wp2_with fail
  refine CP.out.mono ?_
  rintro e w1 ⟨rfl, rfl⟩
  cases hp : Lib.hasPrefix s.data.toList [47] with
  | false =>
    have HV : Hid (x = true) := HX.out.trans (by rw [hp]; rfl)
    clear HX hp CP CN
    go_wp2_with fail
    go_ret
    exact ⟨by rw [HV.out]; rfl, Below.refl _ _⟩
  | true =>
    have HV : Hid (x = !nameB s.data.toList) := HX.out.trans (by rw [hp]; rfl)
    clear HX hp CP
    generalize nameB s.data.toList = y at CN HV
    go_wp2_with fail
    refine CN.out.mono ?_
    rintro e w2 ⟨rfl, hb⟩
    have HB := Lib.hid hb
    clear hb CN
    go_wp2_with fail
    go_ret
    exact ⟨by rw [HV.out]; rfl, HB.out⟩
set_option maxHeartbeats 1000000 in
set_option maxRecDepth 100000 in
theorem isNoName_any (d : Dep) (t : Value) (w : World) : Calls Tryz.prog 133 #[.agg (rowD d t)] w fun e w' => e = .returned (.bool (!decide (d.kind = 1))) ∧ Below w.heap.size w w' := by
  have HB : Hid (Below w.heap.size w (w.alloc (.cells (rowD d t) 44))) := (Below.refl _ _).alloc (Nat.le_refl _) _
  unfold rowD at HB ⊢
  go_enter Tryz.func133, Tryz.ntmps133
  go_wp2_with fail
  go_ret
  refine ⟨ret_bool ?_, HB.out⟩
  rw [Bool.eq_iff_iff]; simp
def noOffer (d : Dep) : Bool := !decide (d.kind = 1) || !decide (d.op = 0) && !decide (d.op = 2)
set_option maxHeartbeats 1000000 in
set_option maxRecDepth 100000 in
theorem isNoOffer_any (d : Dep) (t : Value) (w : World) : Calls Tryz.prog 132 #[.agg (rowD d t)] w fun e w' => e = .returned (.bool (noOffer d)) ∧ Below w.heap.size w w' := by
  have HB : Hid (Below w.heap.size w (w.alloc (.cells (rowD d t) 44))) := (Below.refl _ _).alloc (Nat.le_refl _) _
  have C := Lib.hid (isNoName_any d t (w.alloc (.cells (rowD d t) 44)))
  have K := Lib.hid (Blk.new w 44 (rowD d t))
  obtain ⟨x, hx⟩ : ∃ x, x = noOffer d := ⟨_, rfl⟩
  rw [← hx]
  have HX := Lib.hid hx
  clear hx
  unfold noOffer at HX
  unfold rowD at HB C K ⊢
  go_enter Tryz.func132, Tryz.ntmps132
  go_wp2_with fail
  refine C.out.mono ?_
  rintro e w1 ⟨rfl, hb1⟩
  have HB1 : Hid (Below w.heap.size w w1) := HB.out.trans (hb1.mono (by simp))
  have K1 := K.out.below hb1 (by simp)
  have k2 := K1.cell 2
  simp at k2
  clear hb1 C HB K K1
  by_cases hk : d.kind = 1
  · rw [decide_eq_true hk]
    by_cases h0 : d.op = 0
    · have HV : Hid (x = false) := HX.out.trans (by simp [hk, h0])
      have t0 : (d.op == 0) = true := by simp [h0]
      have t0' : (d.op != 0) = false := by simp [h0]
      clear hk h0 HX
      go_wp2_with fail
      go_ret
      exact ⟨by rw [HV.out]; rfl, HB1.out⟩
    · by_cases h2 : d.op = 2
      · have HV : Hid (x = false) := HX.out.trans (by simp [hk, h2])
        have t0' : (d.op != 0) = true := by simp [h0]
        have t2' : (d.op != 2) = false := by simp [h2]
        clear hk h0 h2 HX
        go_wp2_with fail
        go_ret
        exact ⟨by rw [HV.out]; rfl, HB1.out⟩
      · have HV : Hid (x = true) := HX.out.trans (by simp [hk, h0, h2])
        have t0' : (d.op != 0) = true := by simp [h0]
        have t2' : (d.op != 2) = true := by simp [h2]
        clear hk h0 h2 HX
        go_wp2_with fail
        go_ret
        exact ⟨by rw [HV.out]; rfl, HB1.out⟩
  · have HV : Hid (x = true) := HX.out.trans (by simp [hk])
    rw [decide_eq_false hk]
    clear hk HX
    go_wp2_with fail
    go_ret
    exact ⟨by rw [HV.out]; rfl, HB1.out⟩
set_option maxHeartbeats 1000000 in
set_option maxRecDepth 100000 in
/-- .. which asks Check, whatever it may answer. -/
theorem isNoDep_any (d : Dep) (t : Value) (w : World) (Q : Int → Prop) (hC : ∀ w', Below w.heap.size w w' → Calls Tryz.prog 187 #[.agg (rowD d t)] w' fun e w2 => NumPost Q e ∧ Below w'.heap.size w' w2) :
    Calls Tryz.prog 131 #[.agg (rowD d t)] w fun e w' => BoolPost (fun b => ∃ n, Q n ∧ b = !decide (n = 0)) e ∧ Below w.heap.size w w' := by
  have hb : Below w.heap.size w (w.alloc (.cells (rowD d t) 44)) := (Below.refl _ _).alloc (Nat.le_refl _) _
  have C := Lib.hid (hC _ hb)
  have HB := Lib.hid hb
  clear hC hb
  unfold rowD at HB C ⊢
  go_enter Tryz.func131, Tryz.ntmps131
  go_wp2_with fail
  refine C.out.mono ?_
  rintro e w1 ⟨⟨n, hq, rfl⟩, hb1⟩
  have HB1 : Hid (Below w.heap.size w w1) := HB.out.trans (hb1.mono (by simp))
  have HQ := Lib.hid hq
  clear hb1 C HB hq
  go_wp2_with fail
  go_ret
  refine ⟨⟨_, ⟨n, HQ.out, rfl⟩, ret_bool ?_⟩, HB1.out⟩
  rw [Bool.eq_iff_iff]; simp
end Go.Proofs.YtljldbdjkjllhaaGreatDoor.Ev

/- A package in memory; whether its dependencies may be; whether it may be. -/
namespace Go.Proofs.YtljldbdjkjllhaaGreatDoor.Ev
set_option linter.unusedSimpArgs false
set_option linter.unusedVariables false
open Go.RowKit

structure Pkg where
  name : ByteArray
  evr : ByteArray
  arch : ByteArray
  vendor : ByteArray
  ls : Nat → List Dep
  files : List ByteArray
/-- A package's twelve cells. -/
def rowP (p : Pkg) (ss : Nat → Value) (fs : Value) : Array Value := #[.string p.name, .string p.evr, .string p.arch, .string p.vendor, ss 0, ss 1, ss 2, ss 3, ss 4, ss 5, ss 6, fs]
/-- s is a slice of the dependencies ds. -/
def ListAt (w : World) (S : Nat → Prop) (ds : List Dep) (s : Value) : Prop := ∃ A c, s = .slice A ds.length c ∧ ds.length ≤ c ∧ c ≤ maxLen ∧ (A = none → c = 0) ∧ ArgsAt w S ds A
/-- s is a slice of the texts fl. -/
def FilesAt (w : World) (T : Nat → Prop) (fl : List ByteArray) (s : Value) : Prop := ∃ A c, s = .slice A fl.length c ∧ fl.length ≤ c ∧ c ≤ maxLen ∧ (A = none → c = 0) ∧ TextsAt w T fl A
structure PkgAt (w : World) (S T : Nat → Prop) (p : Pkg) (ss : Nat → Value) (fs : Value) : Prop where
  lists : ∀ i, i < 7 → ListAt w S (p.ls i) (ss i)
  files : FilesAt w T p.files fs
theorem ListAt.stay {w w' : World} {S S' : Nat → Prop} {ds : List Dep} {s : Value} (h : ListAt w S ds s) (hS : ∀ b, S b → S' b) (hw : StayS S w w') : ListAt w' S' ds s := by
  obtain ⟨A, c, h1, h2, h3, h4, h5⟩ := h
  exact ⟨A, c, h1, h2, h3, h4, h5.stay hS hw⟩
theorem FilesAt.stay {w w' : World} {T T' : Nat → Prop} {fl : List ByteArray} {s : Value} (h : FilesAt w T fl s) (hT : ∀ b, T b → T' b) (hw : StayS T w w') : FilesAt w' T' fl s := by
  obtain ⟨A, c, h1, h2, h3, h4, h5⟩ := h
  exact ⟨A, c, h1, h2, h3, h4, h5.stay hT hw⟩
theorem PkgAt.stay {w w' : World} {S S' T T' : Nat → Prop} {p : Pkg} {ss : Nat → Value} {fs : Value} (h : PkgAt w S T p ss fs) (hS : ∀ b, S b → S' b) (hT : ∀ b, T b → T' b) (hw : StayS S w w') (hw2 : StayS T w w') : PkgAt w' S' T' p ss fs :=
  ⟨fun i hi => (h.lists i hi).stay hS hw, h.files.stay hT hw2⟩
theorem PkgAt.below {w w' : World} {S T : Nat → Prop} {p : Pkg} {ss : Nat → Value} {fs : Value} (h : PkgAt w S T p ss fs) (hb : Below w.heap.size w w') : PkgAt w' S T p ss fs :=
  h.stay (fun _ h => h) (fun _ h => h) (StayS.below' hb) (StayS.below' hb)

/-! The dependencies of all kinds. -/
def ptrs (b : Nat) : Array Value := #[.pointer (some ⟨b, 4, none⟩), .pointer (some ⟨b, 5, none⟩), .pointer (some ⟨b, 6, none⟩), .pointer (some ⟨b, 7, none⟩), .pointer (some ⟨b, 8, none⟩), .pointer (some ⟨b, 9, none⟩), .pointer (some ⟨b, 10, none⟩)]
theorem results_cell {fn : Func} {t : Tmp} {e : TypeId} (h : fn.results = #[.cell t e]) (tmps : Array Value) {P : Program} {w : World} {ad : Addr} (hp : tmps[t]?.getD undef = .pointer (some ad)) :
    (results fn tmps).run P w = (loadVar e ad).run P w := by
  simp [results, h, hp, asAddr]
set_option maxRecDepth 100000 in
theorem load_ptrs {w : World} {g : Nat} {t : TypeId} {x0 x1 x2 x3 x4 x5 x6 : Value} (h : Blk w g t #[x0, x1, x2, x3, x4, x5, x6]) : (loadVar 166 ⟨g, 0, none⟩).run Tryz.prog w = .ok (.agg #[x0, x1, x2, x3, x4, x5, x6]) w := by
  have b0 := h.cell 0
  have b1 := h.cell 1
  have b2 := h.cell 2
  have b3 := h.cell 3
  have b4 := h.cell 4
  have b5 := h.cell 5
  have b6 := h.cell 6
  simp at b0 b1 b2 b3 b4 b5 b6
  clear h
  go_simp
set_option maxHeartbeats 2000000 in
set_option maxRecDepth 100000 in
theorem lists_any (b : Nat) (w : World) : Calls Tryz.prog 130 #[.pointer (some ⟨b, 0, none⟩)] w fun e w' => e = .returned (.agg (ptrs b)) ∧ Below w.heap.size w w' := by
  go_enter Tryz.func130, Tryz.ntmps130
  go_upto_region 1 with fail
  go_still_tail 22, (by kernel_rfl)
  change wpList _ _ _ _ _ (World.drew _)
  go_wp2_with fail
  refine bodyPost_ret (v := .agg (ptrs b)) ?_ rfl ⟨rfl, ((Below.refl _ _).alloc (Nat.le_refl _) _).drew⟩
  refine (results_cell rfl _ (ad := ⟨w.heap.size, 0, none⟩) rfl).trans ?_
  exact load_ptrs (Blk.drew (Blk.new w _ _))

/-! Whether they may be. -/
/-- What isNoDep may tell, where Check may answer Q. -/
def NoDep (Q : Dep → Int → Prop) (d : Dep) (b : Bool) : Prop := ∃ n, Q d n ∧ b = !decide (n = 0)
def offersOk (p : Pkg) : Bool := !(p.ls 0).any noOffer && !(p.ls 4).any (fun d => !decide (d.kind = 1))
/-- One list may be. -/
def ListOk (Q : Dep → Int → Prop) (ds : List Dep) : Prop := ds.length ≤ 16 ∧ ∀ d ∈ ds, NoDep Q d false
def ListBad (Q : Dep → Int → Prop) (ds : List Dep) : Prop := 16 < ds.length ∨ ∃ d ∈ ds, NoDep Q d true
def DepsR (Q : Dep → Int → Prop) (p : Pkg) (b : Bool) : Prop := (b = false ∧ ∃ i, i < 7 ∧ ListBad Q (p.ls i)) ∨ ((∀ i, i < 7 → ListOk Q (p.ls i)) ∧ b = offersOk p)
/-- What dep.Check answers of the dependencies of p in worlds behind w0. -/
def ChecksAt (Q : Dep → Int → Prop) (S : Nat → Prop) (p : Pkg) (w0 : World) : Prop :=
  ∀ i, i < 7 → ∀ d ∈ p.ls i, ∀ (t : Value) (w : World), Below w0.heap.size w0 w → Lay w S d t → Calls Tryz.prog 187 #[.agg (rowD d t)] w fun e w' => NumPost (Q d) e ∧ Below w.heap.size w w'
theorem ChecksAt.later {Q : Dep → Int → Prop} {S : Nat → Prop} {p : Pkg} {w0 w1 : World} (h : ChecksAt Q S p w0) (hb : Below w0.heap.size w0 w1) : ChecksAt Q S p w1 :=
  fun i hi d hd t w hw hL => h i hi d hd t w (hb.trans (hw.mono hb.size)) hL
theorem ptr_at (b : Nat) : ∀ k, k < 7 → ∀ w, (Instr.index 166 (.agg (ptrs b)) (.int .i64 ((k : Nat) : Int))).run Tryz.prog w = .ok (.pointer (some ⟨b, 4 + k, none⟩)) w
  | 0, _, w => by kernel_rfl
  | 1, _, w => by kernel_rfl
  | 2, _, w => by kernel_rfl
  | 3, _, w => by kernel_rfl
  | 4, _, w => by kernel_rfl
  | 5, _, w => by kernel_rfl
  | 6, _, w => by kernel_rfl
  | k + 7, h, w => by omega
theorem rowP_at (p : Pkg) (ss : Nat → Value) (fs : Value) : ∀ k, k < 7 → (rowP p ss fs)[4 + k]? = some (ss k)
  | 0, _ => rfl
  | 1, _ => rfl
  | 2, _ => rfl
  | 3, _ => rfl
  | 4, _ => rfl
  | 5, _ => rfl
  | 6, _ => rfl
  | k + 7, h => by omega
set_option maxHeartbeats 4000000 in
set_option maxRecDepth 100000 in
theorem mayDepend_any (Q : Dep → Int → Prop) (p : Pkg) (ss : Nat → Value) (fs : Value) (S T : Nat → Prop) (w0 : World) (hP : PkgAt w0 S T p ss fs) (hC : ChecksAt Q S p w0) :
    Calls Tryz.prog 69 #[.agg (rowP p ss fs)] w0 fun e w' => BoolPost (DepsR Q p) e ∧ Below w0.heap.size w0 w' := by
  obtain ⟨w1, hw1⟩ : ∃ w1, w1 = w0.alloc (.cells (rowP p ss fs) 42) := ⟨_, rfl⟩
  have hb0 : Below w0.heap.size w0 w1 := by rw [hw1]; exact (Below.refl _ _).alloc (Nat.le_refl _) _
  have K0 : Blk w1 w0.heap.size 42 (rowP p ss fs) := by rw [hw1]; exact Blk.new _ _ _
  have CL := Lib.hid (lists_any w0.heap.size (w0.alloc (.cells (rowP p ss fs) 42)))
  have HI := Lib.hid (ptr_at w0.heap.size)
  have HF : Hid (∀ wx, Below w1.heap.size w1 wx → Blk wx w0.heap.size 42 (rowP p ss fs) ∧ PkgAt wx S T p ss fs ∧ ChecksAt Q S p wx ∧ Below w0.heap.size w0 wx) := fun wx hb => by
    have h1 := hb0.trans (hb.mono hb0.size)
    exact ⟨K0.below hb K0.lt, hP.below h1, hC.later h1, h1⟩
  have eD := enters_of Tryz.func131 (by kernel_rfl) rfl
  have eO := enters_of Tryz.func132 (by kernel_rfl) rfl
  have eN := enters_of Tryz.func133 (by kernel_rfl) rfl
  have HE := Lib.hid (And.intro eD (And.intro eO eN))
  have HW := Lib.hid hw1
  clear hb0 K0 hP hC eD eO eN hw1
  unfold ptrs at CL HI
  unfold rowP at CL ⊢
  go_enter Tryz.func69, Tryz.ntmps69
  go_wp2_with fail
  refine CL.out.mono ?_
  rintro e w2 ⟨rfl, hb2⟩
  have HB2 : Hid (Below w1.heap.size w1 w2) := by rw [HW.out]; exact hb2
  clear hb2 CL HW
  go_wp2_with fail
  go_loopw [6] (fun v wx => ∃ k : Nat, k ≤ 7 ∧ v = .int .i64 (k : Int) ∧ Hid (∀ i, i < k → ListOk Q (p.ls i)) ∧ Hid (Below w1.heap.size w1 wx)) (fun v _ => 7 - (intOf v).toNat)
  case atStart => exact ⟨0, by omega, rfl, (show ∀ i, i < 0 → ListOk Q (p.ls i) from fun i hi => by omega), HB2⟩
  case round =>
    obtain ⟨k, hk, rfl, hok, hb⟩ := hrel
    obtain ⟨Kr, hPr, hCr, hBr⟩ := HF.out wr hb.out
    by_cases hlt : k < 7
    · have hix := HI.out k hlt
      have hc := (Kr.cell (4 + k)).trans (rowP_at p ss fs k hlt)
      obtain ⟨A, c, hs, hl1, hl2, hl3, hA⟩ := hPr.lists k hlt
      rw [hs] at hc
      have C := Lib.hid (depContains_any 131 HE.out.1 (NoDep Q) (p.ls k) A c S wr hA hl1 hl2 (fun d hd t w hb hL => isNoDep_any d t w (Q d) (fun w' hb' => hCr k hlt d hd t w' (hb.trans (hb'.mono hb.size)) (hL.stay (fun _ h => h) (StayS.below' hb')))))
      have HBr := Lib.hid hBr
      clear Kr hPr hCr hBr hs hl3 hA
      unfold maxLen at hl2
      by_cases h16 : 16 < (p.ls k).length
      · have t16 : (16 : Int) < ((p.ls k).length : Int) := by omega
        have HV : Hid (BoolPost (DepsR Q p) (.returned (.bool false))) := ⟨false, .inl ⟨rfl, k, hlt, .inl h16⟩, rfl⟩
        clear C h16
        go_wp2_with fail
        go_ret
        exact ⟨HV.out, HBr.out⟩
      · have t16 : ¬ (16 : Int) < ((p.ls k).length : Int) := by omega
        have H16 := Lib.hid h16
        clear h16
        go_wp2_with fail
        refine C.out.mono ?_
        rintro e w3 ⟨⟨bb, ha, rfl⟩, hb3⟩
        have HB3 : Hid (Below w1.heap.size w1 w3) := hb.out.trans (hb3.mono hb.out.size)
        have HB3w : Hid (Below w0.heap.size w0 w3) := HBr.out.trans (hb3.mono HBr.out.size)
        clear hb3 C
        rcases ha with ⟨rfl, d, hd, hg⟩ | ⟨rfl, hg⟩
        · have HV : Hid (BoolPost (DepsR Q p) (.returned (.bool false))) := ⟨false, .inl ⟨rfl, k, hlt, .inr ⟨d, hd, hg⟩⟩, rfl⟩
          clear hg hd hc hix
          go_wp2_with fail
          go_ret
          exact ⟨HV.out, HB3w.out⟩
        · have HN : Hid (∀ i, i < k + 1 → ListOk Q (p.ls i)) := fun i hi => by
            rcases Nat.lt_or_ge i k with h | h
            · exact hok.out i h
            · obtain rfl : i = k := by omega
              exact ⟨by have := H16.out; omega, hg⟩
          clear hg hc hix hok
          go_wp2_with fail
          go_roundw
          case rel => exact ⟨k + 1, by omega, by go_num, HN, HB3⟩
          case measure => simp [intOf]; omega
    · obtain rfl : k = 7 := by omega
      clear hlt
      have c4 := (Kr.cell (4 + 0)).trans (rowP_at p ss fs 0 (by omega))
      have c8 := (Kr.cell (4 + 4)).trans (rowP_at p ss fs 4 (by omega))
      obtain ⟨A0, n0, hs0, hl01, hl02, hl03, hA0⟩ := hPr.lists 0 (by omega)
      obtain ⟨A4, n4, hs4, hl41, hl42, hl43, hA4⟩ := hPr.lists 4 (by omega)
      rw [hs0] at c4
      rw [hs4] at c8
      have HX : Hid (∀ wx, Below wr.heap.size wr wx → wx.cell? ⟨w0.heap.size, 8, none⟩ = some (.slice A4 (p.ls 4).length n4) ∧ ArgsAt wx S (p.ls 4) A4 ∧ Below w0.heap.size w0 wx) := fun wx hbx => by
        refine ⟨(World.cell?_of_block (hbx.block _ Kr.lt)).trans c8, hA4.stay (fun _ h => h) (StayS.below' hbx), hBr.trans (hbx.mono hBr.size)⟩
      have C0 := Lib.hid (depContains_any 132 HE.out.2.1 (fun d b => b = noOffer d) (p.ls 0) A0 n0 S wr hA0 hl01 hl02 (fun d hd t w hb hL => (isNoOffer_any d t w).mono fun e w' h => ⟨⟨_, rfl, h.1⟩, h.2⟩))
      have HBr := Lib.hid hBr
      clear Kr hPr hCr hBr hs0 hs4 hl03 hl43 hA0 hA4 c8
      simp only [Nat.add_zero] at c4
      go_wp2_with fail
      refine C0.out.mono ?_
      rintro e w3 ⟨⟨b0, ha0, rfl⟩, hb3⟩
      obtain ⟨c8, hA4, hB3⟩ := HX.out w3 hb3
      have h0 := ha0.det (fun _ _ h => h)
      have HB3 := Lib.hid hB3
      clear hb3 C0 HX c4 ha0 hB3
      cases b0 with
      | true =>
        have HV : Hid (BoolPost (DepsR Q p) (.returned (.bool false))) := ⟨false, .inr ⟨hok.out, by unfold offersOk; rw [← h0]; rfl⟩, rfl⟩
        clear h0 hA4
        go_wp2_with fail
        go_ret
        exact ⟨HV.out, HB3.out⟩
      | false =>
        have C4 := Lib.hid (depContains_any 133 HE.out.2.2 (fun d b => b = !decide (d.kind = 1)) (p.ls 4) A4 n4 S w3 hA4 hl41 hl42 (fun d hd t w hb hL => (isNoName_any d t w).mono fun e w' h => ⟨⟨_, rfl, h.1⟩, h.2⟩))
        have H0 := Lib.hid h0
        clear h0 hA4
        go_wp2_with fail
        refine C4.out.mono ?_
        rintro e w4 ⟨⟨b4, ha4, rfl⟩, hb4⟩
        have h4 := ha4.det (fun _ _ h => h)
        have HB4 : Hid (Below w0.heap.size w0 w4) := HB3.out.trans (hb4.mono HB3.out.size)
        have HV : Hid (BoolPost (DepsR Q p) (.returned (.bool (!b4)))) := ⟨_, .inr ⟨hok.out, by unfold offersOk; rw [← H0.out, ← h4]; simp⟩, rfl⟩
        clear hb4 C4 c8 ha4 h4
        go_wp2_with fail
        go_ret
        exact ⟨HV.out, HB4.out⟩
end Go.Proofs.YtljldbdjkjllhaaGreatDoor.Ev

/- Whether a package may be: Check. -/
namespace Go.Proofs.YtljldbdjkjllhaaGreatDoor.Ev
set_option linter.unusedSimpArgs false
set_option linter.unusedVariables false
open Go.RowKit

def filesBad (fl : List ByteArray) : Bool := decide (16 < fl.length) || fl.any noFile
/-- The errors ahead of the dependencies. -/
def headN (p : Pkg) : Int := if nameB p.name.data.toList = false then 60 else if evrB p.evr.data.toList = false then 61 else if archB p.arch = false then 62 else if vendorB p.vendor = false then 63 else 0
def chkN (p : Pkg) (b : Bool) : Int := if headN p ≠ 0 then headN p else if b = false then 64 else if filesBad p.files = true then 65 else 0
/-- What Check may answer. -/
def ChkR (Q : Dep → Int → Prop) (p : Pkg) (n : Int) : Prop := ∃ b, (headN p = 0 → DepsR Q p b) ∧ n = chkN p b
theorem ChkR.head {Q : Dep → Int → Prop} {p : Pkg} (h : headN p ≠ 0) : ChkR Q p (headN p) := ⟨true, fun e => absurd e h, by unfold chkN; rw [if_pos h]⟩
theorem ChkR.deps {Q : Dep → Int → Prop} {p : Pkg} (h : headN p = 0) (hd : DepsR Q p false) : ChkR Q p 64 := ⟨false, fun _ => hd, by unfold chkN; rw [if_neg (by simp [h]), if_pos rfl]⟩
theorem ChkR.files {Q : Dep → Int → Prop} {p : Pkg} (h : headN p = 0) (hd : DepsR Q p true) (hf : filesBad p.files = true) : ChkR Q p 65 := ⟨true, fun _ => hd, by unfold chkN; rw [if_neg (by simp [h]), if_neg (by simp), if_pos hf]⟩
theorem ChkR.ok {Q : Dep → Int → Prop} {p : Pkg} (h : headN p = 0) (hd : DepsR Q p true) (hf : filesBad p.files = false) : ChkR Q p 0 := ⟨true, fun _ => hd, by unfold chkN; rw [if_neg (by simp [h]), if_neg (by simp), if_neg (by simp [hf])]⟩
set_option maxHeartbeats 4000000 in
set_option maxRecDepth 100000 in
theorem poolCheck_any (Q : Dep → Int → Prop) (p : Pkg) (ss : Nat → Value) (fs : Value) (S T : Nat → Prop) (w0 : World) (hP : PkgAt w0 S T p ss fs) (hC : ChecksAt Q S p w0) (hT : Tabs w0) :
    Calls Tryz.prog 37 #[.agg (rowP p ss fs)] w0 fun e w' => NumPost (ChkR Q p) e ∧ Below w0.heap.size w0 w' := by
  obtain ⟨w1, hw1⟩ : ∃ w1, w1 = w0.alloc (.cells (rowP p ss fs) 42) := ⟨_, rfl⟩
  have hb0 : Below w0.heap.size w0 w1 := by rw [hw1]; exact (Below.refl _ _).alloc (Nat.le_refl _) _
  have K0 : Blk w1 w0.heap.size 42 (rowP p ss fs) := by rw [hw1]; exact Blk.new _ _ _
  have CE := Lib.hid (parse_any p.evr (w0.alloc (.cells (rowP p ss fs) 42)))
  have HF : Hid (∀ wx, Below w1.heap.size w1 wx → Blk wx w0.heap.size 42 (rowP p ss fs) ∧ PkgAt wx S T p ss fs ∧ ChecksAt Q S p wx ∧ Tabs wx ∧ Below w0.heap.size w0 wx) := fun wx hb => by
    have h1 := hb0.trans (hb.mono hb0.size)
    exact ⟨K0.below hb K0.lt, hP.below h1, hC.later h1, hT.below h1 hT.two, h1⟩
  have HW := Lib.hid hw1
  have HE := Lib.hid (enters_of Tryz.func71 (by kernel_rfl) rfl)
  obtain ⟨ea, eb, ec, hev⟩ := evrV_agg (parse p.evr.data.toList)
  rw [hev] at CE
  have hee := errV_ok p.evr.data.toList
  obtain ⟨n, hn⟩ : ∃ n, n = errV (parse p.evr.data.toList) := ⟨_, rfl⟩
  rw [← hn] at CE hee
  have HEE := Lib.hid hee
  obtain ⟨A, c, rfl, hl1, hl2, hl3, hA⟩ := hP.files
  have HFl := Lib.hid (And.intro hl1 (And.intro hl2 hA))
  clear hb0 K0 hP hC hT hw1 hev hee hn hl1 hl2 hl3 hA
  unfold rowP at CE ⊢
  go_enter Tryz.func37, Tryz.ntmps37
  go_wp2_with fail
  refine CE.out.mono ?_
  rintro e w2 ⟨rfl, hb2⟩
  have HB2 : Hid (Below w1.heap.size w1 w2) := by rw [HW.out]; exact hb2
  clear hb2 CE HW
  have hb3 : Below w1.heap.size w1 (w2.alloc (.cells #[.string ea, .string eb, .string ec] 125)) := HB2.out.alloc HB2.out.size _
  obtain ⟨K3, hP3, hC3, hT3, hB3⟩ := HF.out _ hb3
  have k0 := K3.cell 0
  have k1 := K3.cell 1
  have k2 := K3.cell 2
  have k3 := K3.cell 3
  unfold rowP at k0 k1 k2 k3
  simp at k0 k1 k2 k3
  have CN := Lib.hid (name_any p.name _ hT3)
  have HB3 := Lib.hid hb3
  clear K3 hP3 hC3 hT3 hB3 hb3
  go_upto_region 2 with fail
  generalize w2.alloc (.cells #[.string ea, .string eb, .string ec] 125) = w3 at *
  go_wp2_with fail
  refine CN.out.mono ?_
  rintro e w4 ⟨rfl, hb4⟩
  have HB4 : Hid (Below w1.heap.size w1 w4) := HB3.out.trans (hb4.mono HB3.out.size)
  clear hb4 CN HB3 k0 k1 k2 k3
  obtain ⟨K4, hP4, hC4, hT4, hB4⟩ := HF.out _ HB4.out
  have HB4w := Lib.hid hB4
  cases hname : nameB p.name.data.toList with
  | false =>
    have HV : Hid (NumPost (ChkR Q p) (.returned (.int .i64 60))) := by
      have h : headN p = 60 := by unfold headN; rw [if_pos hname]
      exact ⟨60, h ▸ ChkR.head (by rw [h]; decide), rfl⟩
    clear hname K4 hP4 hC4 hT4 hB4
    go_wp2_with fail
    go_ret
    exact ⟨HV.out, HB4w.out⟩
  | true =>
  cases hevr : evrB p.evr.data.toList with
  | false =>
    have hne : (n == 0) = false := by rw [HEE.out, hevr]
    have hne' : (n != 0) = true := by simpa using hne
    have HV : Hid (NumPost (ChkR Q p) (.returned (.int .i64 61))) := by
      have h : headN p = 61 := by unfold headN; rw [if_neg (by simp [hname]), if_pos hevr]
      exact ⟨61, h ▸ ChkR.head (by rw [h]; decide), rfl⟩
    clear hname hevr K4 hP4 hC4 hT4 hB4
    go_wp2_with fail
    go_ret
    exact ⟨HV.out, HB4w.out⟩
  | true =>
  have hne : (n == 0) = true := by rw [HEE.out, hevr]
  have hne' : (n != 0) = false := by simpa using hne
  have k2 := K4.cell 2
  unfold rowP at k2
  simp at k2
  have CA := Lib.hid (isArch_any p.arch w4)
  have HH := Lib.hid (And.intro hname hevr)
  clear hname hevr K4 hP4 hC4 hT4 hB4
  go_wp2_with fail
  refine CA.out.mono ?_
  rintro e w5 ⟨rfl, hb5⟩
  have HB5 : Hid (Below w1.heap.size w1 w5) := HB4.out.trans (hb5.mono HB4.out.size)
  clear hb5 CA k2 HB4 HB4w hne hne'
  obtain ⟨K5, hP5, hC5, hT5, hB5⟩ := HF.out _ HB5.out
  have HB5w := Lib.hid hB5
  cases harch : archB p.arch with
  | false =>
    have HV : Hid (NumPost (ChkR Q p) (.returned (.int .i64 62))) := by
      have h : headN p = 62 := by unfold headN; rw [if_neg (by simp [HH.out.1]), if_neg (by simp [HH.out.2]), if_pos harch]
      exact ⟨62, h ▸ ChkR.head (by rw [h]; decide), rfl⟩
    clear harch K5 hP5 hC5 hT5 hB5
    go_wp2_with fail
    go_ret
    exact ⟨HV.out, HB5w.out⟩
  | true =>
  have k3 := K5.cell 3
  unfold rowP at k3
  simp at k3
  have CV := Lib.hid (isVendor_any p.vendor w5)
  have HA := Lib.hid harch
  clear harch K5 hP5 hC5 hT5 hB5
  go_wp2_with fail
  refine CV.out.mono ?_
  rintro e w6 ⟨rfl, hb6⟩
  have HB6 : Hid (Below w1.heap.size w1 w6) := HB5.out.trans (hb6.mono HB5.out.size)
  clear hb6 CV k3 HB5 HB5w
  obtain ⟨K6, hP6, hC6, hT6, hB6⟩ := HF.out _ HB6.out
  have HB6w := Lib.hid hB6
  cases hven : vendorB p.vendor with
  | false =>
    have HV : Hid (NumPost (ChkR Q p) (.returned (.int .i64 63))) := by
      have h : headN p = 63 := by unfold headN; rw [if_neg (by simp [HH.out.1]), if_neg (by simp [HH.out.2]), if_neg (by simp [HA.out]), if_pos hven]
      exact ⟨63, h ▸ ChkR.head (by rw [h]; decide), rfl⟩
    clear hven K6 hP6 hC6 hT6 hB6
    go_wp2_with fail
    go_ret
    exact ⟨HV.out, HB6w.out⟩
  | true =>
  have H0 : Hid (headN p = 0) := by
    show headN p = 0
    unfold headN
    rw [if_neg (by simp [HH.out.1]), if_neg (by simp [HH.out.2]), if_neg (by simp [HA.out]), if_neg (by simp [hven])]
  have CD := Lib.hid (mayDepend_any Q p ss (.slice A p.files.length c) S T w6 hP6 hC6)
  have q0 := K6.cell 0
  have q1 := K6.cell 1
  have q2 := K6.cell 2
  have q3 := K6.cell 3
  have q4 := K6.cell 4
  have q5 := K6.cell 5
  have q6 := K6.cell 6
  have q7 := K6.cell 7
  have q8 := K6.cell 8
  have q9 := K6.cell 9
  have q10 := K6.cell 10
  have q11 := K6.cell 11
  unfold rowP at CD q0 q1 q2 q3 q4 q5 q6 q7 q8 q9 q10 q11
  simp at q0 q1 q2 q3 q4 q5 q6 q7 q8 q9 q10 q11
  have HSS : Hid (∀ i, i < 7 → ∃ B m, ss i = .slice B (p.ls i).length m) := fun i hi => by
    obtain ⟨B, m, h, _⟩ := hP6.lists i hi
    exact ⟨B, m, h⟩
  clear hven K6 hP6 hC6 hT6 hB6 HH HA
  obtain ⟨B0, m0, s0⟩ := HSS.out 0 (by omega)
  obtain ⟨B1, m1, s1⟩ := HSS.out 1 (by omega)
  obtain ⟨B2, m2, s2⟩ := HSS.out 2 (by omega)
  obtain ⟨B3, m3, s3⟩ := HSS.out 3 (by omega)
  obtain ⟨B4, m4, s4⟩ := HSS.out 4 (by omega)
  obtain ⟨B5, m5, s5⟩ := HSS.out 5 (by omega)
  obtain ⟨B6, m6, s6⟩ := HSS.out 6 (by omega)
  rw [s0, s1, s2, s3, s4, s5, s6] at CD
  rw [s0] at q4
  rw [s1] at q5
  rw [s2] at q6
  rw [s3] at q7
  rw [s4] at q8
  rw [s5] at q9
  rw [s6] at q10
  clear s0 s1 s2 s3 s4 s5 s6 HSS
  go_wp2_with fail
  refine CD.out.mono ?_
  rintro e w7 ⟨⟨b, hd, rfl⟩, hb7⟩
  have HB7 : Hid (Below w1.heap.size w1 w7) := HB6.out.trans (hb7.mono HB6.out.size)
  have HD := Lib.hid hd
  clear hb7 CD HB6 HB6w hd q0 q1 q2 q3 q4 q5 q6 q7 q8 q9 q10 q11
  obtain ⟨K7, hP7, hC7, hT7, hB7⟩ := HF.out _ HB7.out
  have HB7w := Lib.hid hB7
  cases b with
  | false =>
    have HV : Hid (NumPost (ChkR Q p) (.returned (.int .i64 64))) := ⟨64, ChkR.deps H0.out HD.out, rfl⟩
    clear K7 hP7 hC7 hT7 hB7
    go_wp2_with fail
    go_ret
    exact ⟨HV.out, HB7w.out⟩
  | true =>
  have r11 := K7.cell 11
  unfold rowP at r11
  simp at r11
  obtain ⟨Af, cf, hfe, hf1, hf2, hf3, hfA⟩ := hP7.files
  injection hfe with e1 e2 e3
  subst e1; subst e3
  have CF := Lib.hid (strContains_any 71 HE.out (fun s b => b = noFile s) p.files A c T w7 hfA hf1 hf2 (fun s hs w hb => (isNoFile_any s w (hT7.below hb hT7.two)).mono fun e w' h => ⟨⟨_, rfl, h.1⟩, h.2⟩))
  clear K7 hP7 hC7 hT7 hB7 hfA e2 hf3
  unfold maxLen at hf2
  by_cases h16 : 16 < p.files.length
  · have t16 : (16 : Int) < (p.files.length : Int) := by omega
    have HV : Hid (NumPost (ChkR Q p) (.returned (.int .i64 65))) := ⟨65, ChkR.files H0.out HD.out (by unfold filesBad; simp [h16]), rfl⟩
    clear h16 CF
    go_wp2_with fail
    go_ret
    exact ⟨HV.out, HB7w.out⟩
  · have t16 : ¬ (16 : Int) < (p.files.length : Int) := by omega
    have H16 := Lib.hid h16
    clear h16
    go_wp2_with fail
    refine CF.out.mono ?_
    rintro e w8 ⟨⟨b, ha, rfl⟩, hb8⟩
    have hv := ha.det (fun _ _ h => h)
    have HB8 : Hid (Below w0.heap.size w0 w8) := HB7w.out.trans (hb8.mono HB7w.out.size)
    clear hb8 CF ha r11
    cases b with
    | true =>
      have HV : Hid (NumPost (ChkR Q p) (.returned (.int .i64 65))) := ⟨65, ChkR.files H0.out HD.out (by unfold filesBad; rw [← hv]; simp), rfl⟩
      clear hv
      go_wp2_with fail
      go_ret
      exact ⟨HV.out, HB8.out⟩
    | false =>
      have HV : Hid (NumPost (ChkR Q p) (.returned (.int .i64 0))) := ⟨0, ChkR.ok H0.out HD.out (by unfold filesBad; rw [← hv]; simp [H16.out]), rfl⟩
      clear hv
      go_wp2_with fail
      go_ret
      exact ⟨HV.out, HB8.out⟩
end Go.Proofs.YtljldbdjkjllhaaGreatDoor.Ev

/- The reference's Same of dependencies, Lists, SameTexts. -/
namespace Go.Proofs.YtljldbdjkjllhaaGreatDoor.Ev
set_option linter.unusedSimpArgs false
set_option linter.unusedVariables false
open Go.RowKit

def SameOk (d : Dep) : Prop := ∀ (s s' : Value) (S S' : Nat → Prop) (w : World), Lay w S d s → Lay w S' d s' → Calls Tryz.prog 92 #[.agg (rowD d s), .agg (rowD d s')] w fun e w' => e = .returned (.bool true) ∧ Below w.heap.size w w'
theorem str_self (a : ByteArray) : (a.toList != a.toList) = false ∧ (a.toList == a.toList) = true := by simp
set_option maxHeartbeats 4000000 in
set_option maxRecDepth 100000 in
theorem refSame_node (d : Dep) (ih : ∀ a ∈ d.args, SameOk a) : SameOk d := by
  intro s s' S S' w hL hL'
  obtain ⟨A, c, rfl, hc1, hc2, hA⟩ := hL.args_
  obtain ⟨A', c', rfl, hc1', hc2', hA'⟩ := hL'.args_
  obtain ⟨w1, hw1⟩ : ∃ w1, w1 = (w.alloc (.cells (rowD d (.slice A d.args.length c)) 44)).alloc (.cells (rowD d (.slice A' d.args.length c')) 44) := ⟨_, rfl⟩
  have hB1 : Below w.heap.size w w1 := by rw [hw1]; exact ((Below.refl _ _).alloc (Nat.le_refl _) _).alloc (by simp) _
  have K : Blk w1 w.heap.size 44 (rowD d (.slice A d.args.length c)) := by rw [hw1]; exact (Blk.new _ _ _).alloc _
  have K' : Blk w1 (w.heap.size + 1) 44 (rowD d (.slice A' d.args.length c')) := by rw [hw1]; exact Blk.new' (by simp)
  have hz1 : w1.heap.size = w.heap.size + 2 := by rw [hw1]; simp
  have hA1 : ArgsAt w1 S d.args A := hA.stay (fun _ h => h) (StayS.below' hB1)
  have hA1' : ArgsAt w1 S' d.args A' := hA'.stay (fun _ h => h) (StayS.below' hB1)
  have HF : Hid (∀ wx, Below w1.heap.size w1 wx → Blk wx w.heap.size 44 (rowD d (.slice A d.args.length c)) ∧ Blk wx (w.heap.size + 1) 44 (rowD d (.slice A' d.args.length c')) ∧ ArgsAt wx S d.args A ∧ ArgsAt wx S' d.args A' ∧ Below w.heap.size w wx) := fun wx hb => ⟨K.below hb (by omega), K'.below hb (by omega), hA1.stay (fun _ h => h) (StayS.below' hb), hA1'.stay (fun _ h => h) (StayS.below' hb), hB1.trans (hb.mono (by omega))⟩
  have HIH := Lib.hid ih
  have hargs : d.args.length ≤ 9223372036854775807 := by unfold maxLen at hc2; omega
  obtain ⟨R, HR⟩ : ∃ R : World → Prop, Hid (∀ wx, R wx ↔ Below w1.heap.size w1 wx) := ⟨fun wx => Below w1.heap.size w1 wx, fun _ => Iff.rfl⟩
  have HR0 : Hid (R w1) := (HR.out _).2 (Below.refl _ _)
  obtain ⟨e1, e2⟩ := str_self d.name
  obtain ⟨e3, e4⟩ := str_self d.evr
  clear hL hL' hA hA' hB1 K K' hA1 hA1' ih hz1 hc2 hc2'
  subst hw1
  unfold rowD at HR HR0 HF ⊢
  go_enter Tryz.func92, Tryz.ntmps92
  go_wp2_with fail
  go_loopw [5] (fun v5 wx => ∃ (k : Nat), k ≤ d.args.length ∧ v5 = .int .i64 (k : Int) ∧ Hid (R wx)) (fun v5 _ => d.args.length - (intOf v5).toNat)
  case atStart => exact ⟨0, Nat.zero_le _, rfl, HR0⟩
  case round =>
    clear HR0
    obtain ⟨k, hkn, rfl, HRr⟩ := hrel
    obtain ⟨Kr, Kr', hAr, hAr', hBr⟩ := HF.out wr ((HR.out _).1 HRr.out)
    have c4 := Kr.cell 4
    have c4' := Kr'.cell 4
    simp at c4 c4'
    by_cases hlt : k < d.args.length
    · obtain ⟨a, ha⟩ : ∃ a, d.args[k]? = some a := ⟨_, List.getElem?_eq_getElem hlt⟩
      obtain ⟨b1, o1, t1, hA1, _, hC1, hLa1⟩ := hAr k a ha
      obtain ⟨b2, o2, t2, hA2, _, hC2, hLa2⟩ := hAr' k a ha
      obtain ⟨At1, ct1, rfl, _, _⟩ := hLa1.form_
      obtain ⟨At2, ct2, rfl, _, _⟩ := hLa2.form_
      subst hA1
      subst hA2
      obtain ⟨g0, g1, g2, g3, g4⟩ := hC1
      obtain ⟨h0, h1, h2, h3, h4⟩ := hC2
      have CI := Lib.hid (HIH.out a (List.mem_of_getElem? ha) _ _ S S' wr.drew (Lay.stay (fun _ h => h) (show StayS S wr wr.drew from fun _ _ _ => rfl) a _ hLa1) (Lay.stay (fun _ h => h) (show StayS S' wr wr.drew from fun _ _ _ => rfl) a _ hLa2))
      have HRr2 : Hid (∀ w', Below wr.drew.heap.size wr.drew w' → R w') := fun w' hb => by
        have hx1 := (HR.out _).1 HRr.out
        exact (HR.out _).2 ((below_drewN' hx1 1).trans (hb.mono hx1.size))
      clear Kr Kr' hAr hAr' hLa1 hLa2 ha HRr
      unfold rowD at CI
      go_wp2_with fail
      go_still_tail 10, (by kernel_rfl)
      go_wp2_with fail
      refine CI.out.mono ?_
      rintro e w3 ⟨rfl, hb3⟩
      have HR3 := Lib.hid (HRr2.out w3 hb3)
      clear hb3 CI HRr2
      go_wp2_with fail
      go_roundw
      case rel => exact ⟨k + 1, by omega, by go_num, HR3⟩
      case measure => simp [intOf]; omega
    · have HB := Lib.hid hBr
      clear Kr Kr' hAr hAr' hBr
      go_wp2_with fail
      go_ret
      exact ⟨rfl, HB.out⟩
theorem refSame_any (d : Dep) : SameOk d := by
  induction d using Dep.ind with
  | h k n o e xs ih => exact refSame_node _ ih
def ListsPost (ss : Nat → Value) (w : World) (e : Ending) (w' : World) : Prop :=
  ∃ b, e = .returned (.slice (some ⟨b, 0, none⟩) 7 7) ∧ Blk w' b 40 #[ss 0, ss 1, ss 2, ss 3, ss 4, ss 5, ss 6] ∧ Below w.heap.size w w'
set_option maxHeartbeats 2000000 in
set_option maxRecDepth 100000 in
theorem refLists_any (p : Pkg) (ss : Nat → Value) (fs : Value) (hss : ∀ i, i < 7 → ∃ B n m, ss i = .slice B n m) (w : World) :
    Calls Tryz.prog 50 #[.agg (rowP p ss fs)] w (ListsPost ss w) := by
  obtain ⟨B0, n0, m0, s0⟩ := hss 0 (by omega)
  obtain ⟨B1, n1, m1, s1⟩ := hss 1 (by omega)
  obtain ⟨B2, n2, m2, s2⟩ := hss 2 (by omega)
  obtain ⟨B3, n3, m3, s3⟩ := hss 3 (by omega)
  obtain ⟨B4, n4, m4, s4⟩ := hss 4 (by omega)
  obtain ⟨B5, n5, m5, s5⟩ := hss 5 (by omega)
  obtain ⟨B6, n6, m6, s6⟩ := hss 6 (by omega)
  unfold rowP ListsPost
  rw [s0, s1, s2, s3, s4, s5, s6]
  clear hss s0 s1 s2 s3 s4 s5 s6
  go_enter Tryz.func50, Tryz.ntmps50
  go_wp2_with fail
  go_ret
  exact ⟨_, rfl, Blk.new' (by simp), ((Below.refl _ _).alloc (Nat.le_refl _) _).alloc (by simp) _⟩
theorem strN_eq (y : ByteArray) : (y.toList != y.toList) = false := by simp
theorem strN_ne {x y : ByteArray} (h : x ≠ y) : (x.toList != y.toList) = true := by
  have := str_ne h
  simp only [bne, this]; rfl
set_option maxHeartbeats 1000000 in
theorem sameTexts_any (A A' : Option Addr) (c c' : Nat) (n m : Nat) (xs ys : List ByteArray) (w : World) (hl : xs.length = n) (hl' : ys.length = m) (hn : n ≤ 1048576) (hr : Rd w w.heap.size A (xs.map Value.string)) (hr' : Rd w w.heap.size A' (ys.map Value.string)) :
    Calls Tryz.prog 52 #[.slice A n c, .slice A' m c'] w fun e w' => e = .returned (.bool (decide (xs = ys))) ∧ ∃ k, w' = w.drewN k := by
  by_cases hnm : n = m
  · subst hnm
    have HL := Lib.hid hl
    have HL' := Lib.hid hl'
    clear hl hl'
    have hne : ((n : Int) != (n : Int)) = false := by simp
    go_enter Tryz.func52, Tryz.ntmps52
    go_wp2_with fail
    clear hne
    go_loopw [5] (fun i wr => ∃ k : Nat, k ≤ n ∧ i = .int .i64 (k : Int) ∧ Hid (xs.take k = ys.take k) ∧ ∃ d, wr = w.drewN d) (fun i _ => n - (intOf i).toNat)
    case atStart => exact ⟨0, by omega, rfl, rfl, 0, rfl⟩
    case round =>
      obtain ⟨k, hk, rfl, hx, d, rfl⟩ := hrel
      by_cases hlt : k < n
      · have hltI : (k : Int) < (n : Int) := by omega
        have hk1 : k < xs.length := by rw [HL.out]; exact hlt
        have hk2 : k < ys.length := by rw [HL'.out]; exact hlt
        obtain ⟨b, o, rfl, _, hc⟩ := hr k (.string (xs[k]'hk1)) (by simp [List.getElem?_eq_getElem hk1])
        obtain ⟨b', o', rfl, _, hc'⟩ := hr' k (.string (ys[k]'hk2)) (by simp [List.getElem?_eq_getElem hk2])
        have e1 : Hid (xs.take (k + 1) = xs.take k ++ [xs[k]'hk1]) := (List.take_append_getElem hk1).symm
        have e2 : Hid (ys.take (k + 1) = ys.take k ++ [ys[k]'hk2]) := (List.take_append_getElem hk2).symm
        have e3 : Hid (xs[k]? = some (xs[k]'hk1)) := List.getElem?_eq_getElem hk1
        have e4 : Hid (ys[k]? = some (ys[k]'hk2)) := List.getElem?_eq_getElem hk2
        generalize xs[k]'hk1 = x at hc e1 e3
        generalize ys[k]'hk2 = y at hc' e2 e4
        clear hr hr' hk1 hk2
        by_cases hxy : x = y
        · subst hxy
          have q1 : (x.toList == x.toList) = true := by simp
          have q2 := strN_eq x
          go_wp2_with fail
          go_quiet (fail)
          go_wp2_with fail
          go_roundw
          case rel => go_light; exact ⟨k + 1, by omega, by go_num, by show xs.take (k + 1) = ys.take (k + 1); rw [e1.out, e2.out, hx.out], _, by first | rfl | rw [World.drewN_drewN]⟩
          case measure => go_light; simp only [intOf]; omega
        · have q1 := str_ne hxy
          have q2 := strN_ne hxy
          have HX := Lib.hid hxy
          clear hxy
          go_wp2_with fail
          go_quiet (fail)
          go_wp2_with fail
          go_ret
          have hd : decide (xs = ys) = false := by
            rw [decide_eq_false_iff_not]; intro e; subst e
            exact HX.out (Option.some.inj (e3.out.symm.trans e4.out))
          exact ⟨by rw [hd]; rfl, _, by first | rfl | rw [World.drewN_drewN]⟩
      · have hltI : ¬ (k : Int) < (n : Int) := by omega
        go_wp2_with fail
        go_ret
        have hd : decide (xs = ys) = true := by
          rw [decide_eq_true_iff]
          have h1 := hx.out
          rwa [List.take_of_length_le (by have := HL.out; omega), List.take_of_length_le (by have := HL'.out; omega)] at h1
        exact ⟨by rw [hd]; rfl, _, by first | rfl | rw [World.drewN_drewN]⟩
  · have hne : ((n : Int) != (m : Int)) = true := by simp; omega
    have hd : Hid (decide (xs = ys) = false) := by
      show decide (xs = ys) = false
      rw [decide_eq_false_iff_not]; rintro rfl; omega
    clear hnm
    go_enter Tryz.func52, Tryz.ntmps52
    go_wp2_with fail
    go_ret
    exact ⟨by rw [hd.out]; rfl, 0, rfl⟩
theorem blk_mono {w w' : World} {g : Nat} {t : TypeId} {cs : Array Value} (h : Blk w g t cs) (hb : Below w.heap.size w w') : Blk w' g t cs := Blk.below h hb (Blk.lt h)
theorem rd_texts {w : World} {T : Nat → Prop} {fl : List ByteArray} {A : Option Addr} (h : TextsAt w T fl A) : Rd w w.heap.size A (fl.map Value.string) := fun k v hk => by
  rw [List.getElem?_map] at hk
  obtain ⟨s, hs, rfl⟩ := Option.map_eq_some_iff.1 hk
  obtain ⟨b, o, e, _, hc⟩ := h k s hs
  exact ⟨b, o, e, cell_lt hc, hc⟩
set_option maxHeartbeats 2000000 in
set_option maxRecDepth 100000 in
theorem sameList_any (ds : List Dep) (s s' : Value) (S S' : Nat → Prop) (w : World) (hL : ListAt w S ds s) (hL' : ListAt w S' ds s') :
    Calls Tryz.prog 51 #[s, s'] w fun e w' => e = .returned (.bool true) ∧ Below w.heap.size w w' := by
  obtain ⟨A, c, rfl, h1, h2, h3, h4⟩ := hL
  obtain ⟨A', c', rfl, h1', h2', h3', h4'⟩ := hL'
  have C := Lib.hid (refSame_any (.mk 0 ⟨#[]⟩ 0 ⟨#[]⟩ ds) (.slice A ds.length c) (.slice A' ds.length c') S S' w (lay_iff.2 ⟨A, c, rfl, h1, ⟨h2, h3⟩, h4⟩) (lay_iff.2 ⟨A', c', rfl, h1', ⟨h2', h3'⟩, h4'⟩))
  clear h4 h4'
  unfold rowD at C
  go_enter Tryz.func51, Tryz.ntmps51
  go_wp2_with fail
  refine C.out.mono ?_
  rintro e w1 ⟨rfl, hb⟩
  have HB := Lib.hid hb
  clear hb C
  go_wp2_with fail
  go_ret
  exact ⟨rfl, HB.out⟩
theorem str_same (s : ByteArray) : (s.toList == s.toList) = true := by simp
set_option maxHeartbeats 8000000 in
set_option maxRecDepth 100000 in
theorem samePackage_any (p : Pkg) (ss ss' : Nat → Value) (fs fs' : Value) (S S' T T' : Nat → Prop) (w : World) (hP : PkgAt w S T p ss fs) (hP' : PkgAt w S' T' p ss' fs') (hf : p.files.length ≤ 1048576) :
    Calls Tryz.prog 29 #[.agg (rowP p ss fs), .agg (rowP p ss' fs')] w fun e w' => e = .returned (.bool true) ∧ Below w.heap.size w w' := by
  have hss : ∀ i, i < 7 → ∃ B n m, ss i = .slice B n m := fun i hi => by obtain ⟨A, c, e, _⟩ := hP.lists i hi; exact ⟨_, _, _, e⟩
  have hss' : ∀ i, i < 7 → ∃ B n m, ss' i = .slice B n m := fun i hi => by obtain ⟨A, c, e, _⟩ := hP'.lists i hi; exact ⟨_, _, _, e⟩
  have C1 := Lib.hid (fun w => refLists_any p ss fs hss w)
  have C2 := Lib.hid (fun w => refLists_any p ss' fs' hss' w)
  have HL := Lib.hid (fun (wx : World) (hb : Below w.heap.size w wx) (i : Nat) (hi : i < 7) => sameList_any (p.ls i) (ss i) (ss' i) S S' wx ((hP.lists i hi).stay (fun _ h => h) (StayS.below' hb)) ((hP'.lists i hi).stay (fun _ h => h) (StayS.below' hb)))
  obtain ⟨Af, cf, rfl, f1, f2, f3, f4⟩ := hP.files
  obtain ⟨Ag, cg, rfl, g1, g2, g3, g4⟩ := hP'.files
  have HT := Lib.hid (fun (wx : World) (hb : Below w.heap.size w wx) => sameTexts_any Af Ag cf cg p.files.length p.files.length p.files p.files wx rfl rfl hf (rd_texts (f4.stay (fun _ h => h) (StayS.below' hb))) (rd_texts (g4.stay (fun _ h => h) (StayS.below' hb))))
  obtain ⟨w1, hw1⟩ : ∃ w1, w1 = (w.alloc (.cells (rowP p ss (.slice Af p.files.length cf)) 42)).alloc (.cells (rowP p ss' (.slice Ag p.files.length cg)) 42) := ⟨_, rfl⟩
  have hB1 : Below w.heap.size w w1 := by rw [hw1]; exact ((Below.refl _ _).alloc (Nat.le_refl _) _).alloc (by simp) _
  have K : Hid (Blk w1 w.heap.size 42 (rowP p ss (.slice Af p.files.length cf))) := by rw [hw1]; exact (Blk.new _ _ _).alloc _
  have K' : Hid (Blk w1 (w.heap.size + 1) 42 (rowP p ss' (.slice Ag p.files.length cg))) := by rw [hw1]; exact Blk.new' (by simp)
  have HB1 := Lib.hid hB1
  have HSS := Lib.hid hss
  have HSS' := Lib.hid hss'
  obtain ⟨e1, e2, e3, e4⟩ : Hid ((p.name.toList == p.name.toList) = true) ∧ Hid ((p.evr.toList == p.evr.toList) = true) ∧ Hid ((p.arch.toList == p.arch.toList) = true) ∧ Hid ((p.vendor.toList == p.vendor.toList) = true) := ⟨str_same _, str_same _, str_same _, str_same _⟩
  clear hP hP' hss hss' f1 f2 f3 f4 g1 g2 g3 g4 hB1 hf
  generalize p.files.length = NF at *
  unfold ListsPost at C1 C2
  go_enter Tryz.func29, Tryz.ntmps29
  unfold rowP at C1 C2 K K' hw1 ⊢
  go_upto_region 1 with fail
  rw [← hw1]
  clear hw1
  have k0 := K.out.cell 0
  have k1 := K.out.cell 1
  have k2 := K.out.cell 2
  have k3 := K.out.cell 3
  have k4 := K.out.cell 4
  have k5 := K.out.cell 5
  have k6 := K.out.cell 6
  have k7 := K.out.cell 7
  have k8 := K.out.cell 8
  have k9 := K.out.cell 9
  have k10 := K.out.cell 10
  have k11 := K.out.cell 11
  simp at k0 k1 k2 k3 k4 k5 k6 k7 k8 k9 k10 k11
  go_wp2_with fail
  refine (C1.out _).mono ?_
  rintro e w2 ⟨b1, rfl, hL1, hb2⟩
  have HB2 := Lib.hid (HB1.out.trans (hb2.mono HB1.out.size))
  have L2 := Lib.hid hL1
  have P2 := Lib.hid (blk_mono K.out hb2)
  have P2' := Lib.hid (blk_mono K'.out hb2)
  clear k0 k1 k2 k3 k4 k5 k6 k7 k8 k9 k10 k11 hL1 hb2 K K' C1
  have k0 := P2'.out.cell 0
  have k1 := P2'.out.cell 1
  have k2 := P2'.out.cell 2
  have k3 := P2'.out.cell 3
  have k4 := P2'.out.cell 4
  have k5 := P2'.out.cell 5
  have k6 := P2'.out.cell 6
  have k7 := P2'.out.cell 7
  have k8 := P2'.out.cell 8
  have k9 := P2'.out.cell 9
  have k10 := P2'.out.cell 10
  have k11 := P2'.out.cell 11
  simp at k0 k1 k2 k3 k4 k5 k6 k7 k8 k9 k10 k11
  go_wp2_with fail
  refine (C2.out _).mono ?_
  rintro e w3 ⟨b2, rfl, hL2, hb3⟩
  have HB3 := Lib.hid (HB2.out.trans (hb3.mono HB2.out.size))
  have L3 := Lib.hid (blk_mono L2.out hb3)
  have L3' := Lib.hid hL2
  have P3 := Lib.hid (blk_mono P2.out hb3)
  have P3' := Lib.hid (blk_mono P2'.out hb3)
  clear k0 k1 k2 k3 k4 k5 k6 k7 k8 k9 k10 k11 hL2 hb3 P2 P2' L2 C2
  have HF : Hid (∀ wx, Below w3.heap.size w3 wx → Below w.heap.size w wx ∧ Blk wx b1 40 #[ss 0, ss 1, ss 2, ss 3, ss 4, ss 5, ss 6] ∧ Blk wx b2 40 #[ss' 0, ss' 1, ss' 2, ss' 3, ss' 4, ss' 5, ss' 6] ∧
      Blk wx w.heap.size 42 #[.string p.name, .string p.evr, .string p.arch, .string p.vendor, ss 0, ss 1, ss 2, ss 3, ss 4, ss 5, ss 6, .slice Af NF cf] ∧ Blk wx (w.heap.size + 1) 42 #[.string p.name, .string p.evr, .string p.arch, .string p.vendor, ss' 0, ss' 1, ss' 2, ss' 3, ss' 4, ss' 5, ss' 6, .slice Ag NF cg]) := fun wx hb =>
    ⟨HB3.out.trans (hb.mono HB3.out.size), blk_mono L3.out hb, blk_mono L3'.out hb, blk_mono P3.out hb, blk_mono P3'.out hb⟩
  clear HB1 HB2 HB3 L3 L3' P3 P3'
  obtain ⟨R, HR⟩ : ∃ R : World → Prop, Hid (∀ wx, R wx ↔ Below w3.heap.size w3 wx) := ⟨fun wx => Below w3.heap.size w3 wx, fun _ => Iff.rfl⟩
  have HR0 : Hid (R w3) := (HR.out _).2 (Below.refl _ _)
  go_wp2_with fail
  go_loopw [7, 8] (fun v7 v8 wx => ∃ (k : Nat), k ≤ 7 ∧ v7 = .int .i64 (k : Int) ∧ Hid (R wx)) (fun v7 _ _ => 7 - (intOf v7).toNat)
  case atStart => exact ⟨0, Nat.zero_le _, rfl, HR0⟩
  case round =>
    clear HR0
    obtain ⟨k, hkn, rfl, HRr⟩ := hrel
    obtain ⟨hBr, M1, M2, M3, M4⟩ := HF.out wr ((HR.out _).1 HRr.out)
    by_cases hlt : k < 7
    · have hltI : (k : Int) < 7 := by omega
      have q1 : wr.cell? ⟨b1, k, none⟩ = some (ss k) := by rw [M1.cell]; rcases k with _ | _ | _ | _ | _ | _ | _ | k <;> first | rfl | omega
      have q2 : wr.cell? ⟨b2, k, none⟩ = some (ss' k) := by rw [M2.cell]; rcases k with _ | _ | _ | _ | _ | _ | _ | k <;> first | rfl | omega
      obtain ⟨Ba, na, ma, ea⟩ := HSS.out k hlt
      obtain ⟨Bb, nb, mb, eb⟩ := HSS'.out k hlt
      have CI := Lib.hid (HL.out wr.drew ((below_drewN' hBr 1)) k hlt)
      rw [ea] at q1 CI
      rw [eb] at q2 CI
      have HRr2 : Hid (∀ w', Below wr.drew.heap.size wr.drew w' → R w') := fun w' hb => by
        have hx1 := (HR.out _).1 HRr.out
        exact (HR.out _).2 ((below_drewN' hx1 1).trans (hb.mono hx1.size))
      clear M1 M2 M3 M4 ea eb HRr hBr
      go_wp2_with fail
      go_still_tail 8, (by kernel_rfl)
      go_wp2_with fail
      refine CI.out.mono ?_
      rintro e w4 ⟨rfl, hb4⟩
      have HR4 := Lib.hid (HRr2.out w4 hb4)
      clear hb4 CI HRr2
      go_wp2_with fail
      go_roundw
      case rel => exact ⟨k + 1, by omega, by go_num, HR4⟩
      case measure => simp [intOf]; omega
    · have hk7 : k = 7 := by omega
      subst hk7
      have HBr := Lib.hid hBr
      have C3 := Lib.hid (HT.out wr hBr)
      have m0 := M3.cell 0
      have m1 := M3.cell 1
      have m2 := M3.cell 2
      have m3 := M3.cell 3
      have m11 := M3.cell 11
      have n0 := M4.cell 0
      have n1 := M4.cell 1
      have n2 := M4.cell 2
      have n3 := M4.cell 3
      have n11 := M4.cell 11
      simp at m0 m1 m2 m3 m11 n0 n1 n2 n3 n11
      have s1 := e1.out
      have s2 := e2.out
      have s3 := e3.out
      have s4 := e4.out
      clear M1 M2 hBr
      go_wp2_with fail
      refine C3.out.mono ?_
      rintro e w4 ⟨rfl, nd, rfl⟩
      simp only [decide_true]
      go_wp2_with fail
      go_ret
      exact ⟨by simp, below_drewN' (n := nd) HBr.out⟩
/-- A list of packages in memory: each one's row. -/
def PksAt (w : World) (ps : List Pkg) (A : Option Addr) : Prop := ∀ k p, ps[k]? = some p → ∃ b o ss fs, ∃ S T : Nat → Prop, A = some ⟨b, o, none⟩ ∧ PkgAt w S T p ss fs ∧ p.files.length ≤ 1048576 ∧ ∀ j, j < 12 → w.cell? ⟨b, o + k * 12 + j, none⟩ = (rowP p ss fs)[j]?
theorem PksAt.below {w w' : World} {ps : List Pkg} {A : Option Addr} (h : PksAt w ps A) (hb : Below w.heap.size w w') : PksAt w' ps A := fun k p hk => by
  obtain ⟨b, o, ss, fs, S, T, e, hp, hf, hc⟩ := h k p hk
  refine ⟨b, o, ss, fs, S, T, e, hp.below hb, hf, fun j hj => ?_⟩
  have h2 := hc j hj
  have hlt : (⟨b, o + k * 12 + j, none⟩ : Addr).block < w.heap.size := by
    obtain ⟨v, hv⟩ : ∃ v, (rowP p ss fs)[j]? = some v := by
      rcases j with _ | _ | _ | _ | _ | _ | _ | _ | _ | _ | _ | _ | j <;> first | exact ⟨_, rfl⟩ | omega
    rw [hv] at h2
    exact cell_lt h2
  exact (World.cell?_of_block (hb.block _ hlt)).trans h2
set_option maxHeartbeats 8000000 in
set_option maxRecDepth 100000 in
theorem same_any (ps : List Pkg) (A A' : Option Addr) (n c c' : Nat) (w : World) (hn : ps.length = n) (h : PksAt w ps A) (h' : PksAt w ps A') (hz : n ≤ 1048576) :
    Calls Tryz.prog 15 #[.slice A n c, .slice A' n c'] w fun e w' => e = .returned (.bool true) ∧ Below w.heap.size w w' := by
  have HP := Lib.hid (fun wx (hb : Below w.heap.size w wx) => And.intro (h.below hb) (h'.below hb))
  have HN := Lib.hid hn
  have HB0 : Hid (Below w.heap.size w w) := Below.refl _ _
  clear h h' hn
  go_enter Tryz.func15, Tryz.ntmps15
  go_wp2_with fail
  go_loopw [5, 6] (fun v5 v6 wx => ∃ (k : Nat), k ≤ n ∧ v5 = .int .i64 (k : Int) ∧ Hid (Below w.heap.size w wx)) (fun v5 _ _ => n - (intOf v5).toNat)
  case atStart => exact ⟨0, Nat.zero_le _, rfl, HB0⟩
  case round =>
    clear HB0
    obtain ⟨k, hkn, rfl, HB⟩ := hrel
    by_cases hlt : k < n
    · have hltI : (k : Int) < (n : Int) := by omega
      obtain ⟨p, hp⟩ : ∃ p, ps[k]? = some p := ⟨_, List.getElem?_eq_getElem (by rw [HN.out]; exact hlt)⟩
      obtain ⟨hA, hA'⟩ := HP.out wr HB.out
      obtain ⟨b, o, ss, fs, S, T, rfl, hP, hf, hc⟩ := hA k p hp
      obtain ⟨b', o', ss', fs', S', T', rfl, hP', _, hc'⟩ := hA' k p hp
      have CI := Lib.hid (samePackage_any p ss ss' fs fs' S S' T T' wr.drew (hP.below (below_drewN' (Below.refl _ _) 1)) (hP'.below (below_drewN' (Below.refl _ _) 1)) hf)
      have HB2 := Lib.hid (fun w' (hb : Below wr.drew.heap.size wr.drew w') => (below_drewN' HB.out 1).trans (hb.mono HB.out.size))
      have z0 := hc 0 (by omega)
      have z1 := hc 1 (by omega)
      have z2 := hc 2 (by omega)
      have z3 := hc 3 (by omega)
      have z4 := hc 4 (by omega)
      have z5 := hc 5 (by omega)
      have z6 := hc 6 (by omega)
      have z7 := hc 7 (by omega)
      have z8 := hc 8 (by omega)
      have z9 := hc 9 (by omega)
      have z10 := hc 10 (by omega)
      have z11 := hc 11 (by omega)
      have y0 := hc' 0 (by omega)
      have y1 := hc' 1 (by omega)
      have y2 := hc' 2 (by omega)
      have y3 := hc' 3 (by omega)
      have y4 := hc' 4 (by omega)
      have y5 := hc' 5 (by omega)
      have y6 := hc' 6 (by omega)
      have y7 := hc' 7 (by omega)
      have y8 := hc' 8 (by omega)
      have y9 := hc' 9 (by omega)
      have y10 := hc' 10 (by omega)
      have y11 := hc' 11 (by omega)
      clear hA hA' hP hP' hf hc hc' hp HB
      unfold rowP at CI z0 z1 z2 z3 z4 z5 z6 z7 z8 z9 z10 z11 y0 y1 y2 y3 y4 y5 y6 y7 y8 y9 y10 y11
      simp at z0 z1 z2 z3 z4 z5 z6 z7 z8 z9 z10 z11 y0 y1 y2 y3 y4 y5 y6 y7 y8 y9 y10 y11
      go_wp2_with fail
      go_still_tail 8, (by kernel_rfl)
      go_wp2_with fail
      refine CI.out.mono ?_
      rintro e w4 ⟨rfl, hb4⟩
      have HB4 := Lib.hid (HB2.out w4 hb4)
      clear hb4 CI HB2
      go_wp2_with fail
      go_roundw
      case rel => exact ⟨k + 1, by omega, by go_num, HB4⟩
      case measure => simp [intOf]; omega
    · go_wp2_with fail
      go_ret
      exact ⟨rfl, HB.out⟩
end Go.Proofs.YtljldbdjkjllhaaGreatDoor.Ev
