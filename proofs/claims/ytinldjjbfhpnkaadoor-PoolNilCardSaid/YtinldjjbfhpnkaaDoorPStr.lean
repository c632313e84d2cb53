/- Which texts an architecture, a vendor, a file may be; which dependencies a package may have. -/
import Derived.Test.YtinldjjbfhpnkaaDoorPAny
import Derived.Test.YtinldjjbfhpnkaaDoorShelf
namespace Go.Proofs.YtinldjjbfhpnkaaDoor
set_option linter.unusedSimpArgs false
set_option linter.unusedVariables false
open Go.RowKit

def archOther (x : Nat) : Bool := (decide (x < 97) || decide (122 < x)) && (decide (x < 48) || decide (57 < x)) && !decide (x = 95)
def vendorOther (x : Nat) : Bool := decide (x < 32) || decide (126 < x)
set_option maxRecDepth 100000 in
theorem archOther_any (x : Nat) (hx : x ≤ 1114111) (w : World) : Calls Tryd.prog 42 #[.int .i32 (x : Int)] w fun e w' => e = .returned (.bool (archOther x)) ∧ w = w' := by
  obtain ⟨y, hy⟩ : ∃ y, y = archOther x := ⟨_, rfl⟩
  rw [← hy]
  have h := Lib.hid hy
  clear hy
  go_enter Tryd.func42, Tryd.ntmps42
  go_wp2_with fail
  all_goals
    go_ret
    refine ⟨ret_bool ?_, rfl⟩
    rw [h.out, Bool.eq_iff_iff]
    simp [archOther] <;> omega
set_option maxRecDepth 100000 in
theorem vendorOther_any (x : Nat) (hx : x ≤ 1114111) (w : World) : Calls Tryd.prog 44 #[.int .i32 (x : Int)] w fun e w' => e = .returned (.bool (vendorOther x)) ∧ w = w' := by
  obtain ⟨y, hy⟩ : ∃ y, y = vendorOther x := ⟨_, rfl⟩
  rw [← hy]
  have h := Lib.hid hy
  clear hy
  go_enter Tryd.func44, Tryd.ntmps44
  go_wp2_with fail
  all_goals
    go_ret
    refine ⟨ret_bool ?_, rfl⟩
    rw [h.out, Bool.eq_iff_iff]
    simp [vendorOther] <;> omega
/-- Has a text a rune of a kind? -/
def hasRune (p : Nat → Bool) (s : ByteArray) : Bool := decide (0 ≤ Lib.idxFunc p true s)
def archB (s : ByteArray) : Bool := decide (s.size ≠ 0) && decide (s.size ≤ 20) && !hasRune archOther s
def vendorB (s : ByteArray) : Bool := decide (s.size ≤ 60) && !hasRune vendorOther s
set_option maxHeartbeats 1000000 in
set_option maxRecDepth 100000 in
theorem isArch_any (s : ByteArray) (w : World) : Calls Tryd.prog 24 #[.string s] w fun e w' => e = .returned (.bool (archB s)) ∧ Below w.heap.size w w' := by
  have C0 : ∀ W, Calls Tryd.prog 43 #[.string s, .func (.func 42) #[] #[]] W fun e w' => e = .returned (.bool (hasRune archOther s)) ∧ Below W.heap.size W w' := fun W =>
    Tryd.strings_ContainsFunc_grows 42 #[] (enters_of Tryd.func42 (by kernel_rfl) rfl) archOther s W (fun W' x hx _ => (archOther_any x hx W').mono fun e w' h => ⟨h.1, by rw [← h.2]; exact Below.refl _ _⟩)
  have C := Lib.hid C0
  clear C0
  obtain ⟨x, hx⟩ : ∃ x, x = archB s := ⟨_, rfl⟩
  rw [← hx]
  have HX := Lib.hid hx
  clear hx
  by_cases h0 : s.size = 0
  · have HV : Hid (x = false) := HX.out.trans (by simp [archB, h0])
    obtain rfl := empty_of h0
    clear HX h0 C
    go_enter Tryd.func24, Tryd.ntmps24
    go_wp2_with fail
    go_ret
    exact ⟨by rw [HV.out]; rfl, Below.refl _ _⟩
  obtain ⟨b1, b2, b3⟩ := blank_of h0
  by_cases h20 : s.size ≤ 20
  · have HV : Hid (x = !hasRune archOther s) := HX.out.trans (by simp [archB, h0, h20])
    have t20 : (s.size : Int) ≤ 20 := by omega
    clear HX
    generalize hasRune archOther s = y at C HV
    go_enter Tryd.func24, Tryd.ntmps24
    go_wp2_with fail
    refine (C.out _).mono ?_
    rintro e w1 ⟨rfl, hb1⟩
    have HB := Lib.hid hb1
    clear hb1 C
    go_wp2_with fail
    go_ret
    exact ⟨by rw [HV.out]; rfl, HB.out⟩
  · have HV : Hid (x = false) := HX.out.trans (by simp [archB, h20])
    have t20 : ¬ (s.size : Int) ≤ 20 := by omega
    clear HX C
    go_enter Tryd.func24, Tryd.ntmps24
    go_wp2_with fail
    go_ret
    exact ⟨by rw [HV.out]; rfl, Below.refl _ _⟩
set_option maxHeartbeats 1000000 in
set_option maxRecDepth 100000 in
theorem isVendor_any (s : ByteArray) (w : World) : Calls Tryd.prog 25 #[.string s] w fun e w' => e = .returned (.bool (vendorB s)) ∧ Below w.heap.size w w' := by
  have C0 : ∀ W, Calls Tryd.prog 43 #[.string s, .func (.func 44) #[] #[]] W fun e w' => e = .returned (.bool (hasRune vendorOther s)) ∧ Below W.heap.size W w' := fun W =>
    Tryd.strings_ContainsFunc_grows 44 #[] (enters_of Tryd.func44 (by kernel_rfl) rfl) vendorOther s W (fun W' x hx _ => (vendorOther_any x hx W').mono fun e w' h => ⟨h.1, by rw [← h.2]; exact Below.refl _ _⟩)
  have C := Lib.hid C0
  clear C0
  obtain ⟨x, hx⟩ : ∃ x, x = vendorB s := ⟨_, rfl⟩
  rw [← hx]
  have HX := Lib.hid hx
  clear hx
  by_cases h20 : s.size ≤ 60
  · have HV : Hid (x = !hasRune vendorOther s) := HX.out.trans (by simp [vendorB, h20])
    have t20 : (s.size : Int) ≤ 60 := by omega
    clear HX
    generalize hasRune vendorOther s = y at C HV
    go_enter Tryd.func25, Tryd.ntmps25
    go_wp2_with fail
    refine (C.out _).mono ?_
    rintro e w1 ⟨rfl, hb1⟩
    have HB := Lib.hid hb1
    clear hb1 C
    go_wp2_with fail
    go_ret
    exact ⟨by rw [HV.out]; rfl, HB.out⟩
  · have HV : Hid (x = false) := HX.out.trans (by simp [vendorB, h20])
    have t20 : ¬ (s.size : Int) ≤ 60 := by omega
    clear HX C
    go_enter Tryd.func25, Tryd.ntmps25
    go_wp2_with fail
    go_ret
    exact ⟨by rw [HV.out]; rfl, Below.refl _ _⟩
/-- May a text be no file's? -/
def noFile (s : ByteArray) : Bool := !Lib.hasPrefix s.data.toList [47] || !nameB s.data.toList
set_option maxHeartbeats 1000000 in
set_option maxRecDepth 100000 in
theorem isNoFile_any (s : ByteArray) (w : World) (hT : Tabs w) : Calls Tryd.prog 28 #[.string s] w fun e w' => e = .returned (.bool (noFile s)) ∧ Below w.heap.size w w' := by
  have CP := Lib.hid (Tryd.strings_HasPrefix s ⟨#[47]⟩ w)
  have CN := Lib.hid (name_any s w hT)
  clear hT
  obtain ⟨x, hx⟩ : ∃ x, x = noFile s := ⟨_, rfl⟩
  rw [← hx]
  have HX := Lib.hid hx
  clear hx
  unfold noFile at HX
  go_enter Tryd.func28, Tryd.ntmps28
  go_wp2_with fail
  refine CP.out.mono ?_
  rintro e w1 ⟨rfl, rfl⟩
  cases hp : Lib.hasPrefix s.data.toList [47] with
  | false =>
    have HV : Hid (x = true) := HX.out.trans (by rw [hp]; rfl)
    clear HX hp CP CN
    go_wp2_with fail
    go_ret
    exact ⟨by rw [HV.out]; rfl, Below.refl _ _⟩
  | true =>
    have HV : Hid (x = !nameB s.data.toList) := HX.out.trans (by rw [hp]; rfl)
    clear HX hp CP
    generalize nameB s.data.toList = y at CN HV
    go_wp2_with fail
    refine CN.out.mono ?_
    rintro e w2 ⟨rfl, hb⟩
    have HB := Lib.hid hb
    clear hb CN
    go_wp2_with fail
    go_ret
    exact ⟨by rw [HV.out]; rfl, HB.out⟩
set_option maxHeartbeats 1000000 in
set_option maxRecDepth 100000 in
theorem isNoName_any (d : Dep) (t : Value) (w : World) : Calls Tryd.prog 49 #[.agg (rowD d t)] w fun e w' => e = .returned (.bool (!decide (d.kind = 1))) ∧ Below w.heap.size w w' := by
  have HB : Hid (Below w.heap.size w (w.alloc (.cells (rowD d t) 80))) := (Below.refl _ _).alloc (Nat.le_refl _) _
  unfold rowD at HB ⊢
  go_enter Tryd.func49, Tryd.ntmps49
  go_wp2_with fail
  go_ret
  refine ⟨ret_bool ?_, HB.out⟩
  rw [Bool.eq_iff_iff]; simp
def noOffer (d : Dep) : Bool := !decide (d.kind = 1) || !decide (d.op = 0) && !decide (d.op = 2)
set_option maxHeartbeats 1000000 in
set_option maxRecDepth 100000 in
theorem isNoOffer_any (d : Dep) (t : Value) (w : World) : Calls Tryd.prog 48 #[.agg (rowD d t)] w fun e w' => e = .returned (.bool (noOffer d)) ∧ Below w.heap.size w w' := by
  have HB : Hid (Below w.heap.size w (w.alloc (.cells (rowD d t) 80))) := (Below.refl _ _).alloc (Nat.le_refl _) _
  have C := Lib.hid (isNoName_any d t (w.alloc (.cells (rowD d t) 80)))
  have K := Lib.hid (Blk.new w 80 (rowD d t))
  obtain ⟨x, hx⟩ : ∃ x, x = noOffer d := ⟨_, rfl⟩
  rw [← hx]
  have HX := Lib.hid hx
  clear hx
  unfold noOffer at HX
  unfold rowD at HB C K ⊢
  go_enter Tryd.func48, Tryd.ntmps48
  go_wp2_with fail
  refine C.out.mono ?_
  rintro e w1 ⟨rfl, hb1⟩
  have HB1 : Hid (Below w.heap.size w w1) := HB.out.trans (hb1.mono (by simp))
  have K1 := K.out.below hb1 (by simp)
  have k2 := K1.cell 2
  simp at k2
  clear hb1 C HB K K1
  by_cases hk : d.kind = 1
  · rw [decide_eq_true hk]
    by_cases h0 : d.op = 0
    · have HV : Hid (x = false) := HX.out.trans (by simp [hk, h0])
      have t0 : (d.op == 0) = true := by simp [h0]
      have t0' : (d.op != 0) = false := by simp [h0]
      clear hk h0 HX
      go_wp2_with fail
      go_ret
      exact ⟨by rw [HV.out]; rfl, HB1.out⟩
    · by_cases h2 : d.op = 2
      · have HV : Hid (x = false) := HX.out.trans (by simp [hk, h2])
        have t0' : (d.op != 0) = true := by simp [h0]
        have t2' : (d.op != 2) = false := by simp [h2]
        clear hk h0 h2 HX
        go_wp2_with fail
        go_ret
        exact ⟨by rw [HV.out]; rfl, HB1.out⟩
      · have HV : Hid (x = true) := HX.out.trans (by simp [hk, h0, h2])
        have t0' : (d.op != 0) = true := by simp [h0]
        have t2' : (d.op != 2) = true := by simp [h2]
        clear hk h0 h2 HX
        go_wp2_with fail
        go_ret
        exact ⟨by rw [HV.out]; rfl, HB1.out⟩
  · have HV : Hid (x = true) := HX.out.trans (by simp [hk])
    rw [decide_eq_false hk]
    clear hk HX
    go_wp2_with fail
    go_ret
    exact ⟨by rw [HV.out]; rfl, HB1.out⟩
set_option maxHeartbeats 1000000 in
set_option maxRecDepth 100000 in
/-- .. which asks Check, whatever it may answer. -/
theorem isNoDep_any (d : Dep) (t : Value) (w : World) (Q : Int → Prop) (hC : ∀ w', Below w.heap.size w w' → Calls Tryd.prog 74 #[.agg (rowD d t)] w' fun e w2 => NumPost Q e ∧ Below w'.heap.size w' w2) :
    Calls Tryd.prog 47 #[.agg (rowD d t)] w fun e w' => BoolPost (fun b => ∃ n, Q n ∧ b = !decide (n = 0)) e ∧ Below w.heap.size w w' := by
  have hb : Below w.heap.size w (w.alloc (.cells (rowD d t) 80)) := (Below.refl _ _).alloc (Nat.le_refl _) _
  have C := Lib.hid (hC _ hb)
  have HB := Lib.hid hb
  clear hC hb
  unfold rowD at HB C ⊢
  go_enter Tryd.func47, Tryd.ntmps47
  go_wp2_with fail
  refine C.out.mono ?_
  rintro e w1 ⟨⟨n, hq, rfl⟩, hb1⟩
  have HB1 : Hid (Below w.heap.size w w1) := HB.out.trans (hb1.mono (by simp))
  have HQ := Lib.hid hq
  clear hb1 C HB hq
  go_wp2_with fail
  go_ret
  refine ⟨⟨_, ⟨n, HQ.out, rfl⟩, ret_bool ?_⟩, HB1.out⟩
  rw [Bool.eq_iff_iff]; simp
end Go.Proofs.YtinldjjbfhpnkaaDoor
