/- Which texts a key, a part of a path may be. -/
import Derived.Test.YthgagobdkcikiaaDoorRune
namespace Go.Proofs.YthgagobdkcikiaaDoor
set_option linter.unusedSimpArgs false
set_option linter.unusedVariables false
open Go.RowKit

theorem blank_of {s : ByteArray} (h : s.size ≠ 0) : s.toList.isEmpty = false ∧ ¬ s.toList = [] ∧ s.data.toList ≠ [] := by
  have hp : 0 < s.size := by omega
  refine ⟨toList_cons hp, ?_, ?_⟩
  · intro e; have := toList_cons hp; rw [e] at this; cases this
  · intro e; have := size_len s; rw [e] at this; simp at this; omega
theorem list_ne {s b : ByteArray} (h : s ≠ b) : ¬ s.toList = b.data.toList := fun e => h (s_ext (by rw [← e, ByteArray.toList_eq]))
def smallB (x : Int) : Bool := decide (97 ≤ x) && decide (x ≤ 122)
set_option maxRecDepth 100000 in
theorem isSmall_any (x : Int) (w : World) : Calls Tryd.prog 56 #[.int .i32 x] w fun e w' => e = .returned (.bool (smallB x)) ∧ w = w' := by
  obtain ⟨y, hy⟩ : ∃ y, y = smallB x := ⟨_, rfl⟩
  rw [← hy]
  have h := Lib.hid hy
  clear hy
  go_enter Tryd.func56, Tryd.ntmps56
  go_wp2_with fail
  all_goals
    go_ret
    refine ⟨ret_bool ?_, rfl⟩
    rw [h.out, Bool.eq_iff_iff]
    simp [smallB] <;> omega
def keyOther (x : Nat) : Bool := !smallB x && (decide ((x : Int) < 48) || decide (57 < (x : Int))) && !decide (0 ≤ punAt x)
set_option maxHeartbeats 1000000 in
set_option maxRecDepth 100000 in
theorem keyOther_any (x : Nat) (hx : x ≤ 1114111) (w : World) : Calls Tryd.prog 55 #[.int .i32 (x : Int)] w fun e w' => e = .returned (.bool (keyOther x)) ∧ Below w.heap.size w w' := by
  have CS := Lib.hid (isSmall_any (x : Int) w)
  have CP := Lib.hid (fun w => hasPun_any (x : Int) (by omega) (by omega) w)
  obtain ⟨y, hy⟩ : ∃ y, y = keyOther x := ⟨_, rfl⟩
  rw [← hy]
  have h := Lib.hid hy
  clear hy
  unfold puns at CP
  unfold keyOther at h
  generalize smallB (x : Int) = bs at *
  generalize decide (0 ≤ punAt (x : Int)) = bp at *
  cases bs with
  | true =>
    have HV : Hid (y = false) := h.out.trans (by simp)
    clear h
    go_enter Tryd.func55, Tryd.ntmps55
    go_wp2_with fail
    refine CS.out.mono ?_
    rintro e w1 ⟨rfl, rfl⟩
    go_wp2_with fail
    go_ret
    exact ⟨by rw [HV.out]; rfl, Below.refl _ _⟩
  | false =>
    by_cases hd : (x : Int) < 48 ∨ 57 < (x : Int)
    · have HV : Hid (y = !bp) := h.out.trans (by rcases hd with hd | hd <;> simp [hd])
      clear h
      rcases hd with hd | hd
      · go_enter Tryd.func55, Tryd.ntmps55
        go_wp2_with fail
        refine CS.out.mono ?_
        rintro e w1 ⟨rfl, rfl⟩
        go_wp2_with fail
        refine (CP.out _).mono ?_
        rintro e w1 ⟨rfl, hb⟩
        have HB := Lib.hid hb
        clear hb
        go_wp2_with fail
        go_ret
        exact ⟨by rw [HV.out]; rfl, HB.out⟩
      · have hd' : ¬ (x : Int) < 48 := by omega
        go_enter Tryd.func55, Tryd.ntmps55
        go_wp2_with fail
        refine CS.out.mono ?_
        rintro e w1 ⟨rfl, rfl⟩
        go_wp2_with fail
        refine (CP.out _).mono ?_
        rintro e w1 ⟨rfl, hb⟩
        have HB := Lib.hid hb
        clear hb
        go_wp2_with fail
        go_ret
        exact ⟨by rw [HV.out]; rfl, HB.out⟩
    · have HV : Hid (y = false) := h.out.trans (by
        have h1 : ¬ (x : Int) < 48 := fun e => hd (.inl e)
        have h2 : ¬ 57 < (x : Int) := fun e => hd (.inr e)
        simp [h1, h2])
      have h1 : ¬ (x : Int) < 48 := fun e => hd (.inl e)
      have h2 : ¬ 57 < (x : Int) := fun e => hd (.inr e)
      clear h hd
      go_enter Tryd.func55, Tryd.ntmps55
      go_wp2_with fail
      refine CS.out.mono ?_
      rintro e w1 ⟨rfl, rfl⟩
      go_wp2_with fail
      go_ret
      exact ⟨by rw [HV.out]; rfl, Below.refl _ _⟩
def partOther (x : Nat) : Bool := decide (x < 33) || decide (126 < x)
set_option maxRecDepth 100000 in
theorem partOther_any (x : Nat) (hx : x ≤ 1114111) (w : World) : Calls Tryd.prog 52 #[.int .i32 (x : Int)] w fun e w' => e = .returned (.bool (partOther x)) ∧ w = w' := by
  obtain ⟨y, hy⟩ : ∃ y, y = partOther x := ⟨_, rfl⟩
  rw [← hy]
  have h := Lib.hid hy
  clear hy
  go_enter Tryd.func52, Tryd.ntmps52
  go_wp2_with fail
  all_goals
    go_ret
    refine ⟨ret_bool ?_, rfl⟩
    rw [h.out, Bool.eq_iff_iff]
    simp [partOther] <;> omega
/-- Has a text a rune of a kind? -/
def hasRune (p : Nat → Bool) (s : ByteArray) : Bool := decide (0 ≤ Lib.idxFunc p true s)
def firstSmall (s : ByteArray) : Bool := match s.data.toList[0]? with | some c => smallB (c.toNat : Int) | none => false
def keyB (s : ByteArray) : Bool := decide (s.size ≠ 0) && decide (s.size ≤ 60) && firstSmall s && !hasRune keyOther s
set_option maxHeartbeats 1000000 in
set_option maxRecDepth 100000 in
theorem isKey_any (s : ByteArray) (w : World) : Calls Tryd.prog 42 #[.string s] w fun e w' => e = .returned (.bool (keyB s)) ∧ Below w.heap.size w w' := by
  have C0 : ∀ W, Calls Tryd.prog 53 #[.string s, .func (.func 55) #[] #[]] W fun e w' => e = .returned (.bool (hasRune keyOther s)) ∧ Below W.heap.size W w' := fun W =>
    Tryd.strings_ContainsFunc_grows 55 #[] (enters_of Tryd.func55 (by kernel_rfl) rfl) keyOther s W (fun W' x hx _ => keyOther_any x hx W')
  have C := Lib.hid C0
  clear C0
  obtain ⟨x, hx⟩ : ∃ x, x = keyB s := ⟨_, rfl⟩
  rw [← hx]
  have HX := Lib.hid hx
  clear hx
  unfold keyB at HX
  by_cases h0 : s.size = 0
  · have HV : Hid (x = false) := HX.out.trans (by simp [h0])
    obtain rfl := empty_of h0
    clear HX h0 C
    go_enter Tryd.func42, Tryd.ntmps42
    go_wp2_with fail
    go_ret
    exact ⟨by rw [HV.out]; rfl, Below.refl _ _⟩
  obtain ⟨b1, b2, b3⟩ := blank_of h0
  have hp : 0 < s.size := by omega
  have HF : Hid (firstSmall s = smallB (wrap32 ((s[0]'hp).toNat : Int))) := by
    have hw : wrap32 ((s[0]'hp).toNat : Int) = ((s[0]'hp).toNat : Int) := by
      have := (s[0]'hp).toNat_lt
      unfold wrap32; omega
    rw [hw]
    show (match s.data.toList[0]? with | some c => smallB (c.toNat : Int) | none => false) = _
    rw [byte_at hp]
  by_cases h60 : s.size ≤ 60
  · have HX2 : Hid (x = (smallB (wrap32 ((s[0]'hp).toNat : Int)) && !hasRune keyOther s)) := HX.out.trans (by rw [HF.out]; simp [h0, h60])
    have CS := Lib.hid (isSmall_any (wrap32 ((s[0]'hp).toNat : Int)) w)
    have t60 : (s.size : Int) ≤ 60 := by omega
    clear HX HF
    generalize smallB (wrap32 ((s[0]'hp).toNat : Int)) = bs at *
    generalize hasRune keyOther s = y at *
    cases bs with
    | false =>
      have HV : Hid (x = false) := HX2.out.trans (by simp)
      clear HX2
      go_enter Tryd.func42, Tryd.ntmps42
      go_wp2_with fail
      refine CS.out.mono ?_
      rintro e w1 ⟨rfl, rfl⟩
      go_wp2_with fail
      go_ret
      exact ⟨by rw [HV.out]; rfl, Below.refl _ _⟩
    | true =>
      have HV : Hid (x = !y) := HX2.out.trans (by simp)
      clear HX2
      go_enter Tryd.func42, Tryd.ntmps42
      go_wp2_with fail
      refine CS.out.mono ?_
      rintro e w1 ⟨rfl, rfl⟩
      go_wp2_with fail
      refine (C.out _).mono ?_
      rintro e w1 ⟨rfl, hb1⟩
      have HB := Lib.hid hb1
      clear hb1 C
      go_wp2_with fail
      go_ret
      exact ⟨by rw [HV.out]; rfl, HB.out⟩
  · have HV : Hid (x = false) := HX.out.trans (by simp [h60])
    have t60 : ¬ (s.size : Int) ≤ 60 := by omega
    clear HX C HF
    go_enter Tryd.func42, Tryd.ntmps42
    go_wp2_with fail
    go_ret
    exact ⟨by rw [HV.out]; rfl, Below.refl _ _⟩
/-- Is a text no part of a path? -/
def noPart (s : ByteArray) : Bool := decide (s = ⟨#[]⟩) || decide (s = ⟨#[46]⟩) || decide (s = ⟨#[46, 46]⟩) || hasRune partOther s
set_option maxHeartbeats 1000000 in
set_option maxRecDepth 100000 in
theorem isNoPart_any (s : ByteArray) (w : World) : Calls Tryd.prog 40 #[.string s] w fun e w' => e = .returned (.bool (noPart s)) ∧ Below w.heap.size w w' := by
  have C0 : ∀ W, Calls Tryd.prog 53 #[.string s, .func (.func 52) #[] #[]] W fun e w' => e = .returned (.bool (hasRune partOther s)) ∧ Below W.heap.size W w' := fun W =>
    Tryd.strings_ContainsFunc_grows 52 #[] (enters_of Tryd.func52 (by kernel_rfl) rfl) partOther s W (fun W' x hx _ => (partOther_any x hx W').mono fun e w' h => ⟨h.1, by rw [← h.2]; exact Below.refl _ _⟩)
  have C := Lib.hid C0
  clear C0
  obtain ⟨x, hx⟩ : ∃ x, x = noPart s := ⟨_, rfl⟩
  rw [← hx]
  have HX := Lib.hid hx
  clear hx
  unfold noPart at HX
  by_cases h0 : s = ⟨#[]⟩
  · subst h0
    have HV : Hid (x = true) := HX.out.trans (by simp)
    clear HX C
    go_enter Tryd.func40, Tryd.ntmps40
    go_wp2_with fail
    go_ret
    exact ⟨by rw [HV.out]; rfl, Below.refl _ _⟩
  by_cases h1 : s = ⟨#[46]⟩
  · subst h1
    have HV : Hid (x = true) := HX.out.trans (by simp)
    clear HX C h0
    go_enter Tryd.func40, Tryd.ntmps40
    go_wp2_with fail
    go_ret
    exact ⟨by rw [HV.out]; rfl, Below.refl _ _⟩
  by_cases h2 : s = ⟨#[46, 46]⟩
  · subst h2
    have HV : Hid (x = true) := HX.out.trans (by simp)
    clear HX C h0 h1
    go_enter Tryd.func40, Tryd.ntmps40
    go_wp2_with fail
    go_ret
    exact ⟨by rw [HV.out]; rfl, Below.refl _ _⟩
  have HV : Hid (x = hasRune partOther s) := HX.out.trans (by simp [h0, h1, h2])
  have b0 : s.size ≠ 0 := fun e => h0 (empty_of e)
  obtain ⟨b1, b2, b3⟩ := blank_of b0
  have t1 : ¬ s.toList = [46] := list_ne (b := ⟨#[46]⟩) h1
  have t2 : ¬ s.toList = [46, 46] := list_ne (b := ⟨#[46, 46]⟩) h2
  clear HX h0 h1 h2
  generalize hasRune partOther s = y at *
  go_enter Tryd.func40, Tryd.ntmps40
  go_wp2_with fail
  refine (C.out _).mono ?_
  rintro e w1 ⟨rfl, hb1⟩
  have HB := Lib.hid hb1
  clear hb1 C
  go_wp2_with fail
  go_ret
  exact ⟨by rw [HV.out]; show Ending.returned (.bool (s.toList == [46] || s.toList == [46, 46] || y)) = _; simp [t1, t2], HB.out⟩
set_option maxRecDepth 100000 in
theorem isLong_any (s : ByteArray) (w : World) : Calls Tryd.prog 38 #[.string s] w fun e w' => e = .returned (.bool (decide (200 < s.size))) ∧ w = w' := by
  by_cases h : 200 < s.size
  · have h' : (200 : Int) < (s.size : Int) := by omega
    have e : decide (200 < s.size) = true := by simpa using h
    rw [e]
    go_enter Tryd.func38, Tryd.ntmps38
    go_wp2_with fail
    go_ret
    exact ⟨rfl, rfl⟩
  · have h' : ¬ (200 : Int) < (s.size : Int) := by omega
    have e : decide (200 < s.size) = false := by simpa using h
    rw [e]
    go_enter Tryd.func38, Tryd.ntmps38
    go_wp2_with fail
    go_ret
    exact ⟨rfl, rfl⟩
end Go.Proofs.YthgagobdkcikiaaDoor
