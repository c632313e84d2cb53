/- Parts of the proof. -/
import Derived.Test.YtdhgiammfpjniaaGreatDoorZral
import Derived.Test.YtdhgiammfpjniaaGreatDoorZraf
namespace Go.Proofs.YtdhgiammfpjniaaGreatDoor.Ev
set_option linter.unusedSimpArgs false
set_option linter.unusedVariables false
open Go.RowKit
def abQp (x : Nat) : Bool := (decide (x < 97) || decide (122 < x)) && (decide (x < 48) || decide (57 < x)) && !decide (x = 95)
def aaQ9 (x : Nat) : Bool := decide (x < 32) || decide (126 < x)
set_option maxRecDepth 100000 in
theorem ajQw (x : Nat) (hx : x ≤ 1114111) (w : World) : Calls Tryz.prog 121 #[.int .i32 (x : Int)] w fun e w' => e = .returned (.bool (abQp x)) ∧ w = w' := by
 obtain ⟨y, hy⟩ : ∃ y, y = abQp x := ⟨_, rfl⟩
 rw [← hy]
 have h := hQQ hy
 clear hy
 go_enter Tryz.func121, Tryz.ntmps121
 go_wp2_with fail
 all_goals
  go_ret
  refine ⟨aaQj ?_, rfl⟩
  rw [h.out, Bool.eq_iff_iff]
  simp [abQp] <;> omega
set_option maxRecDepth 100000 in
theorem agQv (x : Nat) (hx : x ≤ 1114111) (w : World) : Calls Tryz.prog 123 #[.int .i32 (x : Int)] w fun e w' => e = .returned (.bool (aaQ9 x)) ∧ w = w' := by
 obtain ⟨y, hy⟩ : ∃ y, y = aaQ9 x := ⟨_, rfl⟩
 rw [← hy]
 have h := hQQ hy
 clear hy
 go_enter Tryz.func123, Tryz.ntmps123
 go_wp2_with fail
 all_goals
  go_ret
  refine ⟨aaQj ?_, rfl⟩
  rw [h.out, Bool.eq_iff_iff]
  simp [aaQ9] <;> omega
def hasRune (p : Nat → Bool) (s : ByteArray) : Bool := decide (0 ≤ Lib.idxFunc p true s)
def archB (s : ByteArray) : Bool := decide (s.size ≠ 0) && decide (s.size ≤ 20) && !hasRune abQp s
def adQz (s : ByteArray) : Bool := decide (s.size ≤ 60) && !hasRune aaQ9 s
set_option maxHeartbeats 1000000 in
set_option maxRecDepth 100000 in
theorem apQl (s : ByteArray) (w : World) : Calls Tryz.prog 59 #[.string s] w fun e w' => e = .returned (.bool (archB s)) ∧ Below w.heap.size w w' := by
 have C0 : ∀ W, Calls Tryz.prog 122 #[.string s, .func (.func 121) #[] #[]] W fun e w' => e = .returned (.bool (hasRune abQp s)) ∧ Below W.heap.size W w' := fun W =>
  Tryz.strings_ContainsFunc_grows 121 #[] (enters_of Tryz.func121 (by kernel_rfl) rfl) abQp s W (fun W' x hx _ => (ajQw x hx W').mono fun e w' h => ⟨h.1, by rw [← h.2]; exact Below.refl _ _⟩)
 have C := hQQ C0
 clear C0
 obtain ⟨x, hx⟩ : ∃ x, x = archB s := ⟨_, rfl⟩
 rw [← hx]
 have HX := hQQ hx
 clear hx
 by_cases h0 : s.size = 0
 ·have HV : Hid (x = false) := HX.out.trans (by simp [archB, h0])
  obtain rfl := afQa h0
  clear HX h0 C
  go_enter Tryz.func59, Tryz.ntmps59
  go_wp2_with fail
  go_ret
  exact ⟨by rw [HV.out]; rfl, Below.refl _ _⟩
 obtain ⟨b1, b2, b3⟩ := abQg h0
 by_cases h20 : s.size ≤ 20
 ·have HV : Hid (x = !hasRune abQp s) := HX.out.trans (by simp [archB, h0, h20])
  have t20 : (s.size : Int) ≤ 20 := by omega
  clear HX
  generalize hasRune abQp s = y at C HV
  go_enter Tryz.func59, Tryz.ntmps59
  go_wp2_with fail
  refine (C.out _).mono ?_
  rintro e w1 ⟨rfl, hb1⟩
  have HB := hQQ hb1
  clear hb1 C
  go_wp2_with fail
  go_ret
  exact ⟨by rw [HV.out]; rfl, HB.out⟩
 ·have HV : Hid (x = false) := HX.out.trans (by simp [archB, h20])
  have t20 : ¬ (s.size : Int) ≤ 20 := by omega
  clear HX C
  go_enter Tryz.func59, Tryz.ntmps59
  go_wp2_with fail
  go_ret
  exact ⟨by rw [HV.out]; rfl, Below.refl _ _⟩
set_option maxHeartbeats 1000000 in
set_option maxRecDepth 100000 in
theorem akQ6 (s : ByteArray) (w : World) : Calls Tryz.prog 60 #[.string s] w fun e w' => e = .returned (.bool (adQz s)) ∧ Below w.heap.size w w' := by
 have C0 : ∀ W, Calls Tryz.prog 122 #[.string s, .func (.func 123) #[] #[]] W fun e w' => e = .returned (.bool (hasRune aaQ9 s)) ∧ Below W.heap.size W w' := fun W =>
  Tryz.strings_ContainsFunc_grows 123 #[] (enters_of Tryz.func123 (by kernel_rfl) rfl) aaQ9 s W (fun W' x hx _ => (agQv x hx W').mono fun e w' h => ⟨h.1, by rw [← h.2]; exact Below.refl _ _⟩)
 have C := hQQ C0
 clear C0
 obtain ⟨x, hx⟩ : ∃ x, x = adQz s := ⟨_, rfl⟩
 rw [← hx]
 have HX := hQQ hx
 clear hx
 by_cases h20 : s.size ≤ 60
 ·have HV : Hid (x = !hasRune aaQ9 s) := HX.out.trans (by simp [adQz, h20])
  have t20 : (s.size : Int) ≤ 60 := by omega
  clear HX
  generalize hasRune aaQ9 s = y at C HV
  go_enter Tryz.func60, Tryz.ntmps60
  go_wp2_with fail
  refine (C.out _).mono ?_
  rintro e w1 ⟨rfl, hb1⟩
  have HB := hQQ hb1
  clear hb1 C
  go_wp2_with fail
  go_ret
  exact ⟨by rw [HV.out]; rfl, HB.out⟩
 ·have HV : Hid (x = false) := HX.out.trans (by simp [adQz, h20])
  have t20 : ¬ (s.size : Int) ≤ 60 := by omega
  clear HX C
  go_enter Tryz.func60, Tryz.ntmps60
  go_wp2_with fail
  go_ret
  exact ⟨by rw [HV.out]; rfl, Below.refl _ _⟩
def acQm (s : ByteArray) : Bool := !Lib.hasPrefix s.data.toList [47] || !nameB s.data.toList
set_option maxHeartbeats 1000000 in
set_option maxRecDepth 100000 in
theorem akQ8 (s : ByteArray) (w : World) (hT : Tabs w) : Calls Tryz.prog 63 #[.string s] w fun e w' => e = .returned (.bool (acQm s)) ∧ Below w.heap.size w w' := by
 have CP := hQQ (Tryz.strings_HasPrefix s ⟨#[47]⟩ w)
 have CN := hQQ (agQl s w hT)
 clear hT
 obtain ⟨x, hx⟩ : ∃ x, x = acQm s := ⟨_, rfl⟩
 rw [← hx]
 have HX := hQQ hx
 clear hx
 unfold acQm at HX
 go_enter Tryz.func63, Tryz.ntmps63
 go_wp2_with fail
 refine CP.out.mono ?_
 rintro e w1 ⟨rfl, rfl⟩
 cases hp : Lib.hasPrefix s.data.toList [47] with
 | false =>
   have HV : Hid (x = true) := HX.out.trans (by rw [hp]; rfl)
   clear HX hp CP CN
   go_wp2_with fail
   go_ret
   exact ⟨by rw [HV.out]; rfl, Below.refl _ _⟩
 | true =>
   have HV : Hid (x = !nameB s.data.toList) := HX.out.trans (by rw [hp]; rfl)
   clear HX hp CP
   generalize nameB s.data.toList = y at CN HV
   go_wp2_with fail
   refine CN.out.mono ?_
   rintro e w2 ⟨rfl, hb⟩
   have HB := hQQ hb
   clear hb CN
   go_wp2_with fail
   go_ret
   exact ⟨by rw [HV.out]; rfl, HB.out⟩
set_option maxHeartbeats 1000000 in
set_option maxRecDepth 100000 in
theorem agQb (d : Dep) (t : Value) (w : World) : Calls Tryz.prog 127 #[.agg (rowD d t)] w fun e w' => e = .returned (.bool (!decide (d.kind = 1))) ∧ Below w.heap.size w w' := by
 have HB : Hid (Below w.heap.size w (w.alloc (.cells (rowD d t) 39))) := (Below.refl _ _).alloc (Nat.le_refl _) _
 unfold rowD at HB ⊢
 go_enter Tryz.func127, Tryz.ntmps127
 go_wp2_with fail
 go_ret
 refine ⟨aaQj ?_, HB.out⟩
 rw [Bool.eq_iff_iff]; simp
def adQ6 (d : Dep) : Bool := !decide (d.kind = 1) || !decide (d.op = 0) && !decide (d.op = 2)
set_option maxHeartbeats 1000000 in
set_option maxRecDepth 100000 in
theorem ajQe (d : Dep) (t : Value) (w : World) : Calls Tryz.prog 126 #[.agg (rowD d t)] w fun e w' => e = .returned (.bool (adQ6 d)) ∧ Below w.heap.size w w' := by
 have HB : Hid (Below w.heap.size w (w.alloc (.cells (rowD d t) 39))) := (Below.refl _ _).alloc (Nat.le_refl _) _
 have C := hQQ (agQb d t (w.alloc (.cells (rowD d t) 39)))
 have K := hQQ (Blk.new w 39 (rowD d t))
 obtain ⟨x, hx⟩ : ∃ x, x = adQ6 d := ⟨_, rfl⟩
 rw [← hx]
 have HX := hQQ hx
 clear hx
 unfold adQ6 at HX
 unfold rowD at HB C K ⊢
 go_enter Tryz.func126, Tryz.ntmps126
 go_wp2_with fail
 refine C.out.mono ?_
 rintro e w1 ⟨rfl, hb1⟩
 have HB1 : Hid (Below w.heap.size w w1) := HB.out.trans (hb1.mono (by simp))
 have K1 := K.out.below hb1 (by simp)
 have k2 := K1.cell 2
 simp at k2
 clear hb1 C HB K K1
 by_cases hk : d.kind = 1
 ·rw [decide_eq_true hk]
  by_cases h0 : d.op = 0
  ·have HV : Hid (x = false) := HX.out.trans (by simp [hk, h0])
   have t0 : (d.op == 0) = true := by simp [h0]
   have t0' : (d.op != 0) = false := by simp [h0]
   clear hk h0 HX
   go_wp2_with fail
   go_ret
   exact ⟨by rw [HV.out]; rfl, HB1.out⟩
  ·by_cases h2 : d.op = 2
   ·have HV : Hid (x = false) := HX.out.trans (by simp [hk, h2])
    have t0' : (d.op != 0) = true := by simp [h0]
    have t2' : (d.op != 2) = false := by simp [h2]
    clear hk h0 h2 HX
    go_wp2_with fail
    go_ret
    exact ⟨by rw [HV.out]; rfl, HB1.out⟩
   ·have HV : Hid (x = true) := HX.out.trans (by simp [hk, h0, h2])
    have t0' : (d.op != 0) = true := by simp [h0]
    have t2' : (d.op != 2) = true := by simp [h2]
    clear hk h0 h2 HX
    go_wp2_with fail
    go_ret
    exact ⟨by rw [HV.out]; rfl, HB1.out⟩
 ·have HV : Hid (x = true) := HX.out.trans (by simp [hk])
  rw [decide_eq_false hk]
  clear hk HX
  go_wp2_with fail
  go_ret
  exact ⟨by rw [HV.out]; rfl, HB1.out⟩
set_option maxHeartbeats 1000000 in
set_option maxRecDepth 100000 in
theorem amQ0 (d : Dep) (t : Value) (w : World) (Q : Int → Prop) (hC : ∀ w', Below w.heap.size w w' → Calls Tryz.prog 182 #[.agg (rowD d t)] w' fun e w2 => acQ2 Q e ∧ Below w'.heap.size w' w2) :
 Calls Tryz.prog 125 #[.agg (rowD d t)] w fun e w' => abQw (fun b => ∃ n, Q n ∧ b = !decide (n = 0)) e ∧ Below w.heap.size w w' := by
 have hb : Below w.heap.size w (w.alloc (.cells (rowD d t) 39)) := (Below.refl _ _).alloc (Nat.le_refl _) _
 have C := hQQ (hC _ hb)
 have HB := hQQ hb
 clear hC hb
 unfold rowD at HB C ⊢
 go_enter Tryz.func125, Tryz.ntmps125
 go_wp2_with fail
 refine C.out.mono ?_
 rintro e w1 ⟨⟨n, hq, rfl⟩, hb1⟩
 have HB1 : Hid (Below w.heap.size w w1) := HB.out.trans (hb1.mono (by simp))
 have HQ := hQQ hq
 clear hb1 C HB hq
 go_wp2_with fail
 go_ret
 refine ⟨⟨_, ⟨n, HQ.out, rfl⟩, aaQj ?_⟩, HB1.out⟩
 rw [Bool.eq_iff_iff]; simp
structure Pkg where
 name : ByteArray
 evr : ByteArray
 arch : ByteArray
 vendor : ByteArray
 ls : Nat → List Dep
 files : List ByteArray
def rowP (p : Pkg) (ss : Nat → Value) (fs : Value) : Array Value := #[.string p.name, .string p.evr, .string p.arch, .string p.vendor, ss 0, ss 1, ss 2, ss 3, ss 4, ss 5, ss 6, fs]
def ListAt (w : World) (S : Nat → Prop) (ds : List Dep) (s : Value) : Prop := ∃ A c, s = .slice A ds.length c ∧ ds.length ≤ c ∧ c ≤ maxLen ∧ (A = none → c = 0) ∧ ArgsAt w S ds A
def FilesAt (w : World) (T : Nat → Prop) (fl : List ByteArray) (s : Value) : Prop := ∃ A c, s = .slice A fl.length c ∧ fl.length ≤ c ∧ c ≤ maxLen ∧ (A = none → c = 0) ∧ TextsAt w T fl A
structure PkgAt (w : World) (S T : Nat → Prop) (p : Pkg) (ss : Nat → Value) (fs : Value) : Prop where
 lists : ∀ i, i < 7 → ListAt w S (p.ls i) (ss i)
 files : FilesAt w T p.files fs
theorem ListAt.stay {w w' : World} {S S' : Nat → Prop} {ds : List Dep} {s : Value} (h : ListAt w S ds s) (hS : ∀ b, S b → S' b) (hw : StayS S w w') : ListAt w' S' ds s := by
 obtain ⟨A, c, h1, h2, h3, h4, h5⟩ := h
 exact ⟨A, c, h1, h2, h3, h4, h5.stay hS hw⟩
theorem FilesAt.stay {w w' : World} {T T' : Nat → Prop} {fl : List ByteArray} {s : Value} (h : FilesAt w T fl s) (hT : ∀ b, T b → T' b) (hw : StayS T w w') : FilesAt w' T' fl s := by
 obtain ⟨A, c, h1, h2, h3, h4, h5⟩ := h
 exact ⟨A, c, h1, h2, h3, h4, h5.stay hT hw⟩
theorem PkgAt.stay {w w' : World} {S S' T T' : Nat → Prop} {p : Pkg} {ss : Nat → Value} {fs : Value} (h : PkgAt w S T p ss fs) (hS : ∀ b, S b → S' b) (hT : ∀ b, T b → T' b) (hw : StayS S w w') (hw2 : StayS T w w') : PkgAt w' S' T' p ss fs :=
 ⟨fun i hi => (h.lists i hi).stay hS hw, h.files.stay hT hw2⟩
theorem PkgAt.below {w w' : World} {S T : Nat → Prop} {p : Pkg} {ss : Nat → Value} {fs : Value} (h : PkgAt w S T p ss fs) (hb : Below w.heap.size w w') : PkgAt w' S T p ss fs :=
 h.stay (fun _ h => h) (fun _ h => h) (StayS.below' hb) (StayS.below' hb)
def ptrs (b : Nat) : Array Value := #[.pointer (some ⟨b, 4, none⟩), .pointer (some ⟨b, 5, none⟩), .pointer (some ⟨b, 6, none⟩), .pointer (some ⟨b, 7, none⟩), .pointer (some ⟨b, 8, none⟩), .pointer (some ⟨b, 9, none⟩), .pointer (some ⟨b, 10, none⟩)]
theorem akQc {fn : Func} {t : Tmp} {e : TypeId} (h : fn.results = #[.cell t e]) (tmps : Array Value) {P : Program} {w : World} {ad : Addr} (hp : tmps[t]?.getD undef = .pointer (some ad)) :
 (results fn tmps).run P w = (loadVar e ad).run P w := by
 simp [results, h, hp, asAddr]
set_option maxRecDepth 100000 in
theorem aqQ8 {w : World} {g : Nat} {t : TypeId} {x0 x1 x2 x3 x4 x5 x6 : Value} (h : Blk w g t #[x0, x1, x2, x3, x4, x5, x6]) : (loadVar 150 ⟨g, 0, none⟩).run Tryz.prog w = .ok (.agg #[x0, x1, x2, x3, x4, x5, x6]) w := by
 have b0 := h.cell 0
 have b1 := h.cell 1
 have b2 := h.cell 2
 have b3 := h.cell 3
 have b4 := h.cell 4
 have b5 := h.cell 5
 have b6 := h.cell 6
 simp at b0 b1 b2 b3 b4 b5 b6
 clear h
 go_simp
set_option maxHeartbeats 2000000 in
set_option maxRecDepth 100000 in
theorem aqQ9 (b : Nat) (w : World) : Calls Tryz.prog 124 #[.pointer (some ⟨b, 0, none⟩)] w fun e w' => e = .returned (.agg (ptrs b)) ∧ Below w.heap.size w w' := by
 go_enter Tryz.func124, Tryz.ntmps124
 go_upto_region 1 with fail
 go_still_tail 22, (by kernel_rfl)
 change wpList _ _ _ _ _ (World.drew _)
 go_wp2_with fail
 refine bodyPost_ret (v := .agg (ptrs b)) ?_ rfl ⟨rfl, ((Below.refl _ _).alloc (Nat.le_refl _) _).drew⟩
 refine (akQc rfl _ (ad := ⟨w.heap.size, 0, none⟩) rfl).trans ?_
 exact aqQ8 (Blk.drew (Blk.new w _ _))
def NoDep (Q : Dep → Int → Prop) (d : Dep) (b : Bool) : Prop := ∃ n, Q d n ∧ b = !decide (n = 0)
def offersOk (p : Pkg) : Bool := !(p.ls 0).any adQ6 && !(p.ls 4).any (fun d => !decide (d.kind = 1))
def aoQb (Q : Dep → Int → Prop) (ds : List Dep) : Prop := ds.length ≤ 16 ∧ ∀ d ∈ ds, NoDep Q d false
def ListBad (Q : Dep → Int → Prop) (ds : List Dep) : Prop := 16 < ds.length ∨ ∃ d ∈ ds, NoDep Q d true
def DepsR (Q : Dep → Int → Prop) (p : Pkg) (b : Bool) : Prop := (b = false ∧ ∃ i, i < 7 ∧ ListBad Q (p.ls i)) ∨ ((∀ i, i < 7 → aoQb Q (p.ls i)) ∧ b = offersOk p)
def ChecksAt (Q : Dep → Int → Prop) (S : Nat → Prop) (p : Pkg) (w0 : World) : Prop :=
 ∀ i, i < 7 → ∀ d ∈ p.ls i, ∀ (t : Value) (w : World), Below w0.heap.size w0 w → Lay w S d t → Calls Tryz.prog 182 #[.agg (rowD d t)] w fun e w' => acQ2 (Q d) e ∧ Below w.heap.size w w'
theorem ChecksAt.later {Q : Dep → Int → Prop} {S : Nat → Prop} {p : Pkg} {w0 w1 : World} (h : ChecksAt Q S p w0) (hb : Below w0.heap.size w0 w1) : ChecksAt Q S p w1 :=
 fun i hi d hd t w hw hL => h i hi d hd t w (hb.trans (hw.mono hb.size)) hL
theorem ptr_at (b : Nat) : ∀ k, k < 7 → ∀ w, (Instr.index 150 (.agg (ptrs b)) (.int .i64 ((k : Nat) : Int))).run Tryz.prog w = .ok (.pointer (some ⟨b, 4 + k, none⟩)) w
 | 0, _, w => by kernel_rfl
 | 1, _, w => by kernel_rfl
 | 2, _, w => by kernel_rfl
 | 3, _, w => by kernel_rfl
 | 4, _, w => by kernel_rfl
 | 5, _, w => by kernel_rfl
 | 6, _, w => by kernel_rfl
 | k + 7, h, w => by omega
theorem amQc (p : Pkg) (ss : Nat → Value) (fs : Value) : ∀ k, k < 7 → (rowP p ss fs)[4 + k]? = some (ss k)
 | 0, _ => rfl
 | 1, _ => rfl
 | 2, _ => rfl
 | 3, _ => rfl
 | 4, _ => rfl
 | 5, _ => rfl
 | 6, _ => rfl
 | k + 7, h => by omega
set_option maxHeartbeats 4000000 in
set_option maxRecDepth 100000 in
theorem ajQd (Q : Dep → Int → Prop) (p : Pkg) (ss : Nat → Value) (fs : Value) (S T : Nat → Prop) (w0 : World) (hP : PkgAt w0 S T p ss fs) (hC : ChecksAt Q S p w0) :
 Calls Tryz.prog 61 #[.agg (rowP p ss fs)] w0 fun e w' => abQw (DepsR Q p) e ∧ Below w0.heap.size w0 w' := by
 obtain ⟨w1, hw1⟩ : ∃ w1, w1 = w0.alloc (.cells (rowP p ss fs) 37) := ⟨_, rfl⟩
 have hb0 : Below w0.heap.size w0 w1 := by rw [hw1]; exact (Below.refl _ _).alloc (Nat.le_refl _) _
 have K0 : Blk w1 w0.heap.size 37 (rowP p ss fs) := by rw [hw1]; exact Blk.new _ _ _
 have CL := hQQ (aqQ9 w0.heap.size (w0.alloc (.cells (rowP p ss fs) 37)))
 have HI := hQQ (ptr_at w0.heap.size)
 have HF : Hid (∀ wx, Below w1.heap.size w1 wx → Blk wx w0.heap.size 37 (rowP p ss fs) ∧ PkgAt wx S T p ss fs ∧ ChecksAt Q S p wx ∧ Below w0.heap.size w0 wx) := fun wx hb => by
  have h1 := hb0.trans (hb.mono hb0.size)
  exact ⟨K0.below hb K0.lt, hP.below h1, hC.later h1, h1⟩
 have eD := enters_of Tryz.func125 (by kernel_rfl) rfl
 have eO := enters_of Tryz.func126 (by kernel_rfl) rfl
 have eN := enters_of Tryz.func127 (by kernel_rfl) rfl
 have HE := hQQ (And.intro eD (And.intro eO eN))
 have HW := hQQ hw1
 clear hb0 K0 hP hC eD eO eN hw1
 unfold ptrs at CL HI
 unfold rowP at CL ⊢
 go_enter Tryz.func61, Tryz.ntmps61
 go_wp2_with fail
 refine CL.out.mono ?_
 rintro e w2 ⟨rfl, hb2⟩
 have HB2 : Hid (Below w1.heap.size w1 w2) := by rw [HW.out]; exact hb2
 clear hb2 CL HW
 go_wp2_with fail
 go_loopw [6] (fun v wx => ∃ k : Nat, k ≤ 7 ∧ v = .int .i64 (k : Int) ∧ Hid (∀ i, i < k → aoQb Q (p.ls i)) ∧ Hid (Below w1.heap.size w1 wx)) (fun v _ => 7 - (intOf v).toNat)
 case atStart => exact ⟨0, by omega, rfl, (show ∀ i, i < 0 → aoQb Q (p.ls i) from fun i hi => by omega), HB2⟩
 case round =>
  obtain ⟨k, hk, rfl, hok, hb⟩ := hrel
  obtain ⟨Kr, hPr, hCr, hBr⟩ := HF.out wr hb.out
  by_cases hlt : k < 7
  ·have hix := HI.out k hlt
   have hc := (Kr.cell (4 + k)).trans (amQc p ss fs k hlt)
   obtain ⟨A, c, hs, hl1, hl2, hl3, hA⟩ := hPr.lists k hlt
   rw [hs] at hc
   have C := hQQ (acQ1 125 HE.out.1 (NoDep Q) (p.ls k) A c S wr hA hl1 hl2 (fun d hd t w hb hL => amQ0 d t w (Q d) (fun w' hb' => hCr k hlt d hd t w' (hb.trans (hb'.mono hb.size)) (hL.stay (fun _ h => h) (StayS.below' hb')))))
   have HBr := hQQ hBr
   clear Kr hPr hCr hBr hs hl3 hA
   unfold maxLen at hl2
   by_cases h16 : 16 < (p.ls k).length
   ·have t16 : (16 : Int) < ((p.ls k).length : Int) := by omega
    have HV : Hid (abQw (DepsR Q p) (.returned (.bool false))) := ⟨false, .inl ⟨rfl, k, hlt, .inl h16⟩, rfl⟩
    clear C h16
    go_wp2_with fail
    go_ret
    exact ⟨HV.out, HBr.out⟩
   ·have t16 : ¬ (16 : Int) < ((p.ls k).length : Int) := by omega
    have H16 := hQQ h16
    clear h16
    go_wp2_with fail
    refine C.out.mono ?_
    rintro e w3 ⟨⟨bb, ha, rfl⟩, hb3⟩
    have HB3 : Hid (Below w1.heap.size w1 w3) := hb.out.trans (hb3.mono hb.out.size)
    have HB3w : Hid (Below w0.heap.size w0 w3) := HBr.out.trans (hb3.mono HBr.out.size)
    clear hb3 C
    rcases ha with ⟨rfl, d, hd, hg⟩ | ⟨rfl, hg⟩
    ·have HV : Hid (abQw (DepsR Q p) (.returned (.bool false))) := ⟨false, .inl ⟨rfl, k, hlt, .inr ⟨d, hd, hg⟩⟩, rfl⟩
     clear hg hd hc hix
     go_wp2_with fail
     go_ret
     exact ⟨HV.out, HB3w.out⟩
    ·have HN : Hid (∀ i, i < k + 1 → aoQb Q (p.ls i)) := fun i hi => by
      rcases Nat.lt_or_ge i k with h | h
      ·exact hok.out i h
      ·obtain rfl : i = k := by omega
       exact ⟨by have := H16.out; omega, hg⟩
     clear hg hc hix hok
     go_wp2_with fail
     go_roundw
     case rel => exact ⟨k + 1, by omega, by go_num, HN, HB3⟩
     case measure => simp [intOf]; omega
  ·obtain rfl : k = 7 := by omega
   clear hlt
   have c4 := (Kr.cell (4 + 0)).trans (amQc p ss fs 0 (by omega))
   have c8 := (Kr.cell (4 + 4)).trans (amQc p ss fs 4 (by omega))
   obtain ⟨A0, n0, hs0, hl01, hl02, hl03, hA0⟩ := hPr.lists 0 (by omega)
   obtain ⟨A4, n4, hs4, hl41, hl42, hl43, hA4⟩ := hPr.lists 4 (by omega)
   rw [hs0] at c4
   rw [hs4] at c8
   have HX : Hid (∀ wx, Below wr.heap.size wr wx → wx.cell? ⟨w0.heap.size, 8, none⟩ = some (.slice A4 (p.ls 4).length n4) ∧ ArgsAt wx S (p.ls 4) A4 ∧ Below w0.heap.size w0 wx) := fun wx hbx => by
    refine ⟨(World.cell?_of_block (hbx.block _ Kr.lt)).trans c8, hA4.stay (fun _ h => h) (StayS.below' hbx), hBr.trans (hbx.mono hBr.size)⟩
   have C0 := hQQ (acQ1 126 HE.out.2.1 (fun d b => b = adQ6 d) (p.ls 0) A0 n0 S wr hA0 hl01 hl02 (fun d hd t w hb hL => (ajQe d t w).mono fun e w' h => ⟨⟨_, rfl, h.1⟩, h.2⟩))
   have HBr := hQQ hBr
   clear Kr hPr hCr hBr hs0 hs4 hl03 hl43 hA0 hA4 c8
   simp only [Nat.add_zero] at c4
   go_wp2_with fail
   refine C0.out.mono ?_
   rintro e w3 ⟨⟨b0, ha0, rfl⟩, hb3⟩
   obtain ⟨c8, hA4, hB3⟩ := HX.out w3 hb3
   have h0 := ha0.det (fun _ _ h => h)
   have HB3 := hQQ hB3
   clear hb3 C0 HX c4 ha0 hB3
   cases b0 with
   | true =>
     have HV : Hid (abQw (DepsR Q p) (.returned (.bool false))) := ⟨false, .inr ⟨hok.out, by unfold offersOk; rw [← h0]; rfl⟩, rfl⟩
     clear h0 hA4
     go_wp2_with fail
     go_ret
     exact ⟨HV.out, HB3.out⟩
   | false =>
     have C4 := hQQ (acQ1 127 HE.out.2.2 (fun d b => b = !decide (d.kind = 1)) (p.ls 4) A4 n4 S w3 hA4 hl41 hl42 (fun d hd t w hb hL => (agQb d t w).mono fun e w' h => ⟨⟨_, rfl, h.1⟩, h.2⟩))
     have H0 := hQQ h0
     clear h0 hA4
     go_wp2_with fail
     refine C4.out.mono ?_
     rintro e w4 ⟨⟨b4, ha4, rfl⟩, hb4⟩
     have h4 := ha4.det (fun _ _ h => h)
     have HB4 : Hid (Below w0.heap.size w0 w4) := HB3.out.trans (hb4.mono HB3.out.size)
     have HV : Hid (abQw (DepsR Q p) (.returned (.bool (!b4)))) := ⟨_, .inr ⟨hok.out, by unfold offersOk; rw [← H0.out, ← h4]; simp⟩, rfl⟩
     clear hb4 C4 c8 ha4 h4
     go_wp2_with fail
     go_ret
     exact ⟨HV.out, HB4.out⟩
def filesBad (fl : List ByteArray) : Bool := decide (16 < fl.length) || fl.any acQm
def headN (p : Pkg) : Int := if nameB p.name.data.toList = false then 60 else if evrB p.evr.data.toList = false then 61 else if archB p.arch = false then 62 else if adQz p.vendor = false then 63 else 0
def chkN (p : Pkg) (b : Bool) : Int := if headN p ≠ 0 then headN p else if b = false then 64 else if filesBad p.files = true then 65 else 0
def ChkR (Q : Dep → Int → Prop) (p : Pkg) (n : Int) : Prop := ∃ b, (headN p = 0 → DepsR Q p b) ∧ n = chkN p b
theorem ChkR.head {Q : Dep → Int → Prop} {p : Pkg} (h : headN p ≠ 0) : ChkR Q p (headN p) := ⟨true, fun e => absurd e h, by unfold chkN; rw [if_pos h]⟩
theorem ChkR.deps {Q : Dep → Int → Prop} {p : Pkg} (h : headN p = 0) (hd : DepsR Q p false) : ChkR Q p 64 := ⟨false, fun _ => hd, by unfold chkN; rw [if_neg (by simp [h]), if_pos rfl]⟩
theorem ChkR.files {Q : Dep → Int → Prop} {p : Pkg} (h : headN p = 0) (hd : DepsR Q p true) (hf : filesBad p.files = true) : ChkR Q p 65 := ⟨true, fun _ => hd, by unfold chkN; rw [if_neg (by simp [h]), if_neg (by simp), if_pos hf]⟩
theorem ChkR.ok {Q : Dep → Int → Prop} {p : Pkg} (h : headN p = 0) (hd : DepsR Q p true) (hf : filesBad p.files = false) : ChkR Q p 0 := ⟨true, fun _ => hd, by unfold chkN; rw [if_neg (by simp [h]), if_neg (by simp), if_neg (by simp [hf])]⟩
set_option maxHeartbeats 4000000 in
set_option maxRecDepth 100000 in
theorem poolCheck_any (Q : Dep → Int → Prop) (p : Pkg) (ss : Nat → Value) (fs : Value) (S T : Nat → Prop) (w0 : World) (hP : PkgAt w0 S T p ss fs) (hC : ChecksAt Q S p w0) (hT : Tabs w0) :
 Calls Tryz.prog 29 #[.agg (rowP p ss fs)] w0 fun e w' => acQ2 (ChkR Q p) e ∧ Below w0.heap.size w0 w' := by
 obtain ⟨w1, hw1⟩ : ∃ w1, w1 = w0.alloc (.cells (rowP p ss fs) 37) := ⟨_, rfl⟩
 have hb0 : Below w0.heap.size w0 w1 := by rw [hw1]; exact (Below.refl _ _).alloc (Nat.le_refl _) _
 have K0 : Blk w1 w0.heap.size 37 (rowP p ss fs) := by rw [hw1]; exact Blk.new _ _ _
 have CE := hQQ (akQu p.evr (w0.alloc (.cells (rowP p ss fs) 37)))
 have HF : Hid (∀ wx, Below w1.heap.size w1 wx → Blk wx w0.heap.size 37 (rowP p ss fs) ∧ PkgAt wx S T p ss fs ∧ ChecksAt Q S p wx ∧ Tabs wx ∧ Below w0.heap.size w0 wx) := fun wx hb => by
  have h1 := hb0.trans (hb.mono hb0.size)
  exact ⟨K0.below hb K0.lt, hP.below h1, hC.later h1, hT.below h1 hT.two, h1⟩
 have HW := hQQ hw1
 have HE := hQQ (enters_of Tryz.func63 (by kernel_rfl) rfl)
 obtain ⟨ea, eb, ec, hev⟩ := ajQi (parse p.evr.data.toList)
 rw [hev] at CE
 have hee := amQ3 p.evr.data.toList
 obtain ⟨n, hn⟩ : ∃ n, n = errV (parse p.evr.data.toList) := ⟨_, rfl⟩
 rw [← hn] at CE hee
 have HEE := hQQ hee
 obtain ⟨A, c, rfl, hl1, hl2, hl3, hA⟩ := hP.files
 have HFl := hQQ (And.intro hl1 (And.intro hl2 hA))
 clear hb0 K0 hP hC hT hw1 hev hee hn hl1 hl2 hl3 hA
 unfold rowP at CE ⊢
 go_enter Tryz.func29, Tryz.ntmps29
 go_wp2_with fail
 refine CE.out.mono ?_
 rintro e w2 ⟨rfl, hb2⟩
 have HB2 : Hid (Below w1.heap.size w1 w2) := by rw [HW.out]; exact hb2
 clear hb2 CE HW
 have hb3 : Below w1.heap.size w1 (w2.alloc (.cells #[.string ea, .string eb, .string ec] 101)) := HB2.out.alloc HB2.out.size _
 obtain ⟨K3, hP3, hC3, hT3, hB3⟩ := HF.out _ hb3
 have k0 := K3.cell 0
 have k1 := K3.cell 1
 have k2 := K3.cell 2
 have k3 := K3.cell 3
 unfold rowP at k0 k1 k2 k3
 simp at k0 k1 k2 k3
 have CN := hQQ (agQl p.name _ hT3)
 have HB3 := hQQ hb3
 clear K3 hP3 hC3 hT3 hB3 hb3
 go_upto_region 2 with fail
 generalize w2.alloc (.cells #[.string ea, .string eb, .string ec] 101) = w3 at *
 go_wp2_with fail
 refine CN.out.mono ?_
 rintro e w4 ⟨rfl, hb4⟩
 have HB4 : Hid (Below w1.heap.size w1 w4) := HB3.out.trans (hb4.mono HB3.out.size)
 clear hb4 CN HB3 k0 k1 k2 k3
 obtain ⟨K4, hP4, hC4, hT4, hB4⟩ := HF.out _ HB4.out
 have HB4w := hQQ hB4
 cases hname : nameB p.name.data.toList with
 | false =>
   have HV : Hid (acQ2 (ChkR Q p) (.returned (.int .i64 60))) := by
    have h : headN p = 60 := by unfold headN; rw [if_pos hname]
    exact ⟨60, h ▸ ChkR.head (by rw [h]; decide), rfl⟩
   clear hname K4 hP4 hC4 hT4 hB4
   go_wp2_with fail
   go_ret
   exact ⟨HV.out, HB4w.out⟩
 | true =>
 cases hevr : evrB p.evr.data.toList with
 | false =>
   have hne : (n == 0) = false := by rw [HEE.out, hevr]
   have hne' : (n != 0) = true := by simpa using hne
   have HV : Hid (acQ2 (ChkR Q p) (.returned (.int .i64 61))) := by
    have h : headN p = 61 := by unfold headN; rw [if_neg (by simp [hname]), if_pos hevr]
    exact ⟨61, h ▸ ChkR.head (by rw [h]; decide), rfl⟩
   clear hname hevr K4 hP4 hC4 hT4 hB4
   go_wp2_with fail
   go_ret
   exact ⟨HV.out, HB4w.out⟩
 | true =>
 have hne : (n == 0) = true := by rw [HEE.out, hevr]
 have hne' : (n != 0) = false := by simpa using hne
 have k2 := K4.cell 2
 unfold rowP at k2
 simp at k2
 have CA := hQQ (apQl p.arch w4)
 have HH := hQQ (And.intro hname hevr)
 clear hname hevr K4 hP4 hC4 hT4 hB4
 go_wp2_with fail
 refine CA.out.mono ?_
 rintro e w5 ⟨rfl, hb5⟩
 have HB5 : Hid (Below w1.heap.size w1 w5) := HB4.out.trans (hb5.mono HB4.out.size)
 clear hb5 CA k2 HB4 HB4w hne hne'
 obtain ⟨K5, hP5, hC5, hT5, hB5⟩ := HF.out _ HB5.out
 have HB5w := hQQ hB5
 cases harch : archB p.arch with
 | false =>
   have HV : Hid (acQ2 (ChkR Q p) (.returned (.int .i64 62))) := by
    have h : headN p = 62 := by unfold headN; rw [if_neg (by simp [HH.out.1]), if_neg (by simp [HH.out.2]), if_pos harch]
    exact ⟨62, h ▸ ChkR.head (by rw [h]; decide), rfl⟩
   clear harch K5 hP5 hC5 hT5 hB5
   go_wp2_with fail
   go_ret
   exact ⟨HV.out, HB5w.out⟩
 | true =>
 have k3 := K5.cell 3
 unfold rowP at k3
 simp at k3
 have CV := hQQ (akQ6 p.vendor w5)
 have HA := hQQ harch
 clear harch K5 hP5 hC5 hT5 hB5
 go_wp2_with fail
 refine CV.out.mono ?_
 rintro e w6 ⟨rfl, hb6⟩
 have HB6 : Hid (Below w1.heap.size w1 w6) := HB5.out.trans (hb6.mono HB5.out.size)
 clear hb6 CV k3 HB5 HB5w
 obtain ⟨K6, hP6, hC6, hT6, hB6⟩ := HF.out _ HB6.out
 have HB6w := hQQ hB6
 cases hven : adQz p.vendor with
 | false =>
   have HV : Hid (acQ2 (ChkR Q p) (.returned (.int .i64 63))) := by
    have h : headN p = 63 := by unfold headN; rw [if_neg (by simp [HH.out.1]), if_neg (by simp [HH.out.2]), if_neg (by simp [HA.out]), if_pos hven]
    exact ⟨63, h ▸ ChkR.head (by rw [h]; decide), rfl⟩
   clear hven K6 hP6 hC6 hT6 hB6
   go_wp2_with fail
   go_ret
   exact ⟨HV.out, HB6w.out⟩
 | true =>
 have H0 : Hid (headN p = 0) := by
  show headN p = 0
  unfold headN
  rw [if_neg (by simp [HH.out.1]), if_neg (by simp [HH.out.2]), if_neg (by simp [HA.out]), if_neg (by simp [hven])]
 have CD := hQQ (ajQd Q p ss (.slice A p.files.length c) S T w6 hP6 hC6)
 have q0 := K6.cell 0
 have q1 := K6.cell 1
 have q2 := K6.cell 2
 have q3 := K6.cell 3
 have q4 := K6.cell 4
 have q5 := K6.cell 5
 have q6 := K6.cell 6
 have q7 := K6.cell 7
 have q8 := K6.cell 8
 have q9 := K6.cell 9
 have q10 := K6.cell 10
 have q11 := K6.cell 11
 unfold rowP at CD q0 q1 q2 q3 q4 q5 q6 q7 q8 q9 q10 q11
 simp at q0 q1 q2 q3 q4 q5 q6 q7 q8 q9 q10 q11
 have HSS : Hid (∀ i, i < 7 → ∃ B m, ss i = .slice B (p.ls i).length m) := fun i hi => by
  obtain ⟨B, m, h, _⟩ := hP6.lists i hi
  exact ⟨B, m, h⟩
 clear hven K6 hP6 hC6 hT6 hB6 HH HA
 obtain ⟨B0, m0, s0⟩ := HSS.out 0 (by omega)
 obtain ⟨B1, m1, s1⟩ := HSS.out 1 (by omega)
 obtain ⟨B2, m2, s2⟩ := HSS.out 2 (by omega)
 obtain ⟨B3, m3, s3⟩ := HSS.out 3 (by omega)
 obtain ⟨B4, m4, s4⟩ := HSS.out 4 (by omega)
 obtain ⟨B5, m5, s5⟩ := HSS.out 5 (by omega)
 obtain ⟨B6, m6, s6⟩ := HSS.out 6 (by omega)
 rw [s0, s1, s2, s3, s4, s5, s6] at CD
 rw [s0] at q4
 rw [s1] at q5
 rw [s2] at q6
 rw [s3] at q7
 rw [s4] at q8
 rw [s5] at q9
 rw [s6] at q10
 clear s0 s1 s2 s3 s4 s5 s6 HSS
 go_wp2_with fail
 refine CD.out.mono ?_
 rintro e w7 ⟨⟨b, hd, rfl⟩, hb7⟩
 have HB7 : Hid (Below w1.heap.size w1 w7) := HB6.out.trans (hb7.mono HB6.out.size)
 have HD := hQQ hd
 clear hb7 CD HB6 HB6w hd q0 q1 q2 q3 q4 q5 q6 q7 q8 q9 q10 q11
 obtain ⟨K7, hP7, hC7, hT7, hB7⟩ := HF.out _ HB7.out
 have HB7w := hQQ hB7
 cases b with
 | false =>
   have HV : Hid (acQ2 (ChkR Q p) (.returned (.int .i64 64))) := ⟨64, ChkR.deps H0.out HD.out, rfl⟩
   clear K7 hP7 hC7 hT7 hB7
   go_wp2_with fail
   go_ret
   exact ⟨HV.out, HB7w.out⟩
 | true =>
 have r11 := K7.cell 11
 unfold rowP at r11
 simp at r11
 obtain ⟨Af, cf, hfe, hf1, hf2, hf3, hfA⟩ := hP7.files
 injection hfe with e1 e2 e3
 subst e1; subst e3
 have CF := hQQ (agQ1 63 HE.out (fun s b => b = acQm s) p.files A c T w7 hfA hf1 hf2 (fun s hs w hb => (akQ8 s w (hT7.below hb hT7.two)).mono fun e w' h => ⟨⟨_, rfl, h.1⟩, h.2⟩))
 clear K7 hP7 hC7 hT7 hB7 hfA e2 hf3
 unfold maxLen at hf2
 by_cases h16 : 16 < p.files.length
 ·have t16 : (16 : Int) < (p.files.length : Int) := by omega
  have HV : Hid (acQ2 (ChkR Q p) (.returned (.int .i64 65))) := ⟨65, ChkR.files H0.out HD.out (by unfold filesBad; simp [h16]), rfl⟩
  clear h16 CF
  go_wp2_with fail
  go_ret
  exact ⟨HV.out, HB7w.out⟩
 ·have t16 : ¬ (16 : Int) < (p.files.length : Int) := by omega
  have H16 := hQQ h16
  clear h16
  go_wp2_with fail
  refine CF.out.mono ?_
  rintro e w8 ⟨⟨b, ha, rfl⟩, hb8⟩
  have hv := ha.det (fun _ _ h => h)
  have HB8 : Hid (Below w0.heap.size w0 w8) := HB7w.out.trans (hb8.mono HB7w.out.size)
  clear hb8 CF ha r11
  cases b with
  | true =>
    have HV : Hid (acQ2 (ChkR Q p) (.returned (.int .i64 65))) := ⟨65, ChkR.files H0.out HD.out (by unfold filesBad; rw [← hv]; simp), rfl⟩
    clear hv
    go_wp2_with fail
    go_ret
    exact ⟨HV.out, HB8.out⟩
  | false =>
    have HV : Hid (acQ2 (ChkR Q p) (.returned (.int .i64 0))) := ⟨0, ChkR.ok H0.out HD.out (by unfold filesBad; rw [← hv]; simp [H16.out]), rfl⟩
    clear hv
    go_wp2_with fail
    go_ret
    exact ⟨HV.out, HB8.out⟩
end Go.Proofs.YtdhgiammfpjniaaGreatDoor.Ev

namespace Go.Proofs.YtdhgiammfpjniaaGreatDoor
set_option linter.unusedSimpArgs false
set_option linter.unusedVariables false
open Go.RowKit
def fcV (f : Nat) : Value := .func (.func f) #[] #[]
end Go.Proofs.YtdhgiammfpjniaaGreatDoor
