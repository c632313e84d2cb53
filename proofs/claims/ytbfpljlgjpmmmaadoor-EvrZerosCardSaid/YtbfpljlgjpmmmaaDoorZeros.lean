/- The walk of EvrZeros. -/
import Derived.Test.YtbfpljlgjpmmmaaDoorAwake
import Derived.Test.YtbfpljlgjpmmmaaDoorFacts
import Derived.BigGuardPart
import Derived.Lib.AppendIntMem
import Derived.SizedLaws
import Derived.Test.YtbfpljlgjpmmmaaDoorCards
import Derived.Stop.LaidErr
import Derived.MakeChecks
namespace Go.Proofs.YtbfpljlgjpmmmaaDoor
set_option linter.unusedSimpArgs false
set_option linter.unusedVariables false
open Go.RowKit

theorem dec_digits (u : Nat) : (Lib.decDigits u).all isDg = true := by
  induction u using Nat.strongRecOn with
  | ind u ih =>
    rw [Lib.decDigits]
    by_cases h : u < 10
    · rw [dif_pos h]
      simp only [List.all_cons, List.all_nil, Bool.and_true, isDg, Bool.and_eq_true, decide_eq_true_eq]
      rw [UInt8.toNat_ofNat']
      omega
    · rw [dif_neg h, List.all_append, ih (u / 10) (by omega)]
      simp only [List.all_cons, List.all_nil, Bool.and_true, Bool.true_and, isDg, Bool.and_eq_true, decide_eq_true_eq]
      rw [UInt8.toNat_ofNat']
      omega
theorem dec_cons (u : Nat) : ∃ c ds, Lib.decDigits u = c :: ds := by
  rw [Lib.decDigits]
  by_cases h : u < 10
  · rw [dif_pos h]; exact ⟨_, _, rfl⟩
  · rw [dif_neg h]
    cases hx : Lib.decDigits (u / 10) with
    | nil => exact ⟨_, _, rfl⟩
    | cons c ds => exact ⟨_, _, rfl⟩
theorem dec_len5 {u : Nat} (h : u < 100000) : (Lib.decDigits u).length ≤ 5 := by
  rw [Lib.decDigits_length]
  rw [Lib.nDigits]
  split
  · omega
  · rw [Lib.nDigits]
    split
    · omega
    · rw [Lib.nDigits]
      split
      · omega
      · rw [Lib.nDigits]
        split
        · omega
        · rw [Lib.nDigits]
          split <;> omega
theorem itoa5_any (n : Nat) (h : n < 100000) (w : World) (htab : Lib.TabIs Tryd.prog w "internal/strconv.uint64pow10" .u64 Lib.pow10Tab) :
    Calls Tryd.prog 18 #[.int .i64 (n : Int)] w fun e w' => e = .returned (.string ⟨(Lib.decDigits n).toArray⟩) ∧ Below w.heap.size w w' :=
  (Tryd.strconv_Itoa n (by omega) (by omega) w htab).mono fun e w' ⟨he, k, os, hw⟩ => by
    subst hw
    rw [Lib.itoa_nonneg] at he
    refine ⟨he, ?_⟩
    exact Lib.below_grow _ w (Nat.le_refl _) k os

theorem itoa6_any (x : Int) (n : Nat) (hx : x = (n : Int)) (h : n < 100000) (w : World) (htab : Lib.TabIs Tryd.prog w "internal/strconv.uint64pow10" .u64 Lib.pow10Tab) :
    Calls Tryd.prog 18 #[.int .i64 x] w fun e w' => e = .returned (.string ⟨(Lib.decDigits n).toArray⟩) ∧ Below w.heap.size w w' := by
  subst hx; exact itoa5_any n h w htab
/-- What the versions with noughts, and with a point, ahead compare as. -/
theorem zeros_cmp (kind : Int) (n : Nat) (r : List UInt8) (O : Option Parts) (h1 : bothErr kind (parse (Lib.decDigits n ++ 46 :: r)) O = 0) :
    (bothErr kind (parse (48 :: (Lib.decDigits n ++ 46 :: r))) O = 0 → cmpO kind (parse (48 :: (Lib.decDigits n ++ 46 :: r))) O = cmpO kind (parse (Lib.decDigits n ++ 46 :: r)) O) ∧
    (bothErr kind (parse (48 :: 48 :: 48 :: (Lib.decDigits n ++ 46 :: r))) O = 0 → cmpO kind (parse (48 :: 48 :: 48 :: (Lib.decDigits n ++ 46 :: r))) O = cmpO kind (parse (Lib.decDigits n ++ 46 :: r)) O) ∧
    (kind = 1 → bothErr kind (parse (46 :: (Lib.decDigits n ++ 46 :: r))) O = 0 → cmpO kind (parse (46 :: (Lib.decDigits n ++ 46 :: r))) O = cmpO kind (parse (Lib.decDigits n ++ 46 :: r)) O) := by
  obtain ⟨hk, p, o, hp, ho⟩ := both_zero h1
  have hd := dec_digits n
  obtain ⟨c, ds, hcd⟩ := dec_cons n
  rw [hcd] at hp hd ⊢
  simp only [List.all_cons, Bool.and_eq_true] at hd
  have hds : ∀ x ∈ ds, x ≠ 58 := fun x hx => by
    have := List.all_eq_true.1 hd.2 x hx
    rintro rfl
    revert this; decide
  have o3 : ∀ x y : Parts, cmpO kind (some x) (some y) = cmpEvr kind x y := fun x y => by
    show (if kindB kind = true then cmpEvr kind x y else 0) = _
    rw [if_pos hk]
  subst ho
  refine ⟨fun h => ?_, fun h => ?_, fun k1 h => ?_⟩
  · obtain ⟨_, q, _, hq, _⟩ := both_zero h
    have hp' : parse (c :: ds ++ 46 :: r) = some p := hp
    have hq' : parse (48 :: (c :: ds ++ 46 :: r)) = some q := hq
    rw [hp', hq', o3, o3]
    exact (ahead_zero kind hd.1 hds hp' hq').1
  · obtain ⟨_, q, _, hq, _⟩ := both_zero h
    have hp' : parse (c :: ds ++ 46 :: r) = some p := hp
    have hq' : parse (48 :: 48 :: 48 :: (c :: ds ++ 46 :: r)) = some q := hq
    rw [hp', hq', o3, o3]
    exact ahead_zeros kind hd.1 hds hp' hq'
  · obtain ⟨_, q, _, hq, _⟩ := both_zero h
    have hp' : parse (c :: ds ++ 46 :: r) = some p := hp
    have hq' : parse (46 :: (c :: ds ++ 46 :: r)) = some q := hq
    rw [hp', hq', o3, o3, k1]
    exact ahead_point hd.1 hds hp' hq'
theorem bl_app (a b : ByteArray) : (a ++ b).data.toList = a.data.toList ++ b.data.toList := by simp

/-- The walk, its digits' number known. -/
def ZeroIn (digits : Int) (k : Nat) : Prop := (digits < 0 ∧ (-(digits + 1)) % 100000 = (k : Int)) ∨ (0 ≤ digits ∧ digits % 100000 = (k : Int))

set_option maxHeartbeats 8000000 in
set_option maxRecDepth 1000000 in
theorem zeros_any (W : World) (htab : Lib.TabIs Tryd.prog W "internal/strconv.uint64pow10" .u64 Lib.pow10Tab) (kind digits : Int) (lo : -9223372036854775808 ≤ digits) (hi : digits ≤ 9223372036854775807) (rest other : ByteArray) (hr : rest.size ≤ 140737488351232) :
    Calls Tryd.prog 10 #[.int .i64 kind, .int .i64 digits, .string rest, .string other] W (TrueBelow W) := by
  have TB := Lib.hid (Lib.tabBelow_of_tabIs htab)
  obtain ⟨k, hk, hd⟩ : ∃ k : Nat, k < 100000 ∧ ZeroIn digits k := by
    by_cases h : digits < 0
    · exact ⟨((-(digits + 1)) % 100000).toNat, by omega, .inl ⟨h, by omega⟩⟩
    · exact ⟨(digits % 100000).toNat, by omega, .inr ⟨by omega, by omega⟩⟩
  have hl := dec_len5 hk
  have hsz : (⟨(Lib.decDigits k).toArray⟩ : ByteArray).size ≤ 5 := by rw [← size_len]; exact hl
  have hS : ((⟨(Lib.decDigits k).toArray⟩ : ByteArray) ++ ⟨#[46]⟩ ++ rest).data.toList = Lib.decDigits k ++ 46 :: rest.data.toList := by rw [bl_app, bl_app]; simp
  have C1 := Lib.hid (fun w => compare_any kind (⟨(Lib.decDigits k).toArray⟩ ++ ⟨#[46]⟩ ++ rest) other w)
  have C2 := Lib.hid (fun w => compare_any kind (⟨#[48]⟩ ++ (⟨(Lib.decDigits k).toArray⟩ ++ ⟨#[46]⟩ ++ rest)) other w)
  have C3 := Lib.hid (fun w => compare_any kind (⟨#[48, 48, 48]⟩ ++ (⟨(Lib.decDigits k).toArray⟩ ++ ⟨#[46]⟩ ++ rest)) other w)
  have C4 := Lib.hid (fun w => compare_any kind (⟨#[46]⟩ ++ (⟨(Lib.decDigits k).toArray⟩ ++ ⟨#[46]⟩ ++ rest)) other w)
  rw [hS] at C1
  rw [bl_app, hS] at C2 C3 C4
  have Z := zeros_cmp kind k rest.data.toList (parse other.data.toList)
  rw [show ∀ X : List UInt8, (⟨#[48]⟩ : ByteArray).data.toList ++ X = 48 :: X from fun _ => rfl] at C2
  rw [show ∀ X : List UInt8, (⟨#[48, 48, 48]⟩ : ByteArray).data.toList ++ X = 48 :: 48 :: 48 :: X from fun _ => rfl] at C3
  rw [show ∀ X : List UInt8, (⟨#[46]⟩ : ByteArray).data.toList ++ X = 46 :: X from fun _ => rfl] at C4
  have hz0 : ((⟨(Lib.decDigits k).toArray⟩ : ByteArray) ++ ⟨#[46]⟩ ++ rest).size ≤ 140737488351238 := by
    simp only [ByteArray.size_append]
    have : (⟨#[46]⟩ : ByteArray).size = 1 := rfl
    omega
  generalize bothErr kind (parse (Lib.decDigits k ++ 46 :: rest.data.toList)) (parse other.data.toList) = y1 at *
  generalize bothErr kind (parse (48 :: (Lib.decDigits k ++ 46 :: rest.data.toList))) (parse other.data.toList) = y2 at *
  generalize bothErr kind (parse (48 :: 48 :: 48 :: (Lib.decDigits k ++ 46 :: rest.data.toList))) (parse other.data.toList) = y3 at *
  generalize bothErr kind (parse (46 :: (Lib.decDigits k ++ 46 :: rest.data.toList))) (parse other.data.toList) = y4 at *
  generalize cmpO kind (parse (Lib.decDigits k ++ 46 :: rest.data.toList)) (parse other.data.toList) = x1 at *
  generalize cmpO kind (parse (48 :: (Lib.decDigits k ++ 46 :: rest.data.toList))) (parse other.data.toList) = x2 at *
  generalize cmpO kind (parse (48 :: 48 :: 48 :: (Lib.decDigits k ++ 46 :: rest.data.toList))) (parse other.data.toList) = x3 at *
  generalize cmpO kind (parse (46 :: (Lib.decDigits k ++ 46 :: rest.data.toList))) (parse other.data.toList) = x4 at *
  have ZH := Lib.hid Z
  clear Z hS htab
  rcases hd with ⟨h, hm⟩ | ⟨h, hm⟩
  · have HM := Lib.hid hm
    have b0 : (0 : Int) ≤ -(digits + 1) := by omega
    have b1 : -(digits + 1) ≤ 9223372036854775807 := by omega
    go_enter Tryd.func10, Tryd.ntmps10
    go_wp2_with fail
    refine (awake_any _).mono ?_
    rintro e w1 ⟨rfl, hb1⟩
    have HB1 := Lib.hid hb1
    have hz1 := hb1.size
    have HTB := Lib.hid (TB.out.on hb1)
    clear hb1
    go_wp2_with fail
    refine (itoa6_any _ k (by rw [← Int.neg_tmod, Int.tmod_eq_emod_of_nonneg (by omega)]; exact HM.out) hk w1 HTB.out.here).mono ?_
    rintro e w2 ⟨rfl, hb2⟩
    have HB2 : Hid (Below W.heap.size W w2) := HB1.out.trans (hb2.mono hz1)
    have hz2 := HB2.out.size
    clear hb2
    go_wp2_with fail
    refine (C1.out _).mono ?_
    rintro e w3 ⟨rfl, hb3⟩
    have HB3 : Hid (Below W.heap.size W w3) := HB2.out.trans (hb3.mono hz2)
    have hz3 := HB3.out.size
    clear hb3
    go_wp2_with fail
    refine (C2.out _).mono ?_
    rintro e w4 ⟨rfl, hb4⟩
    have HB4 : Hid (Below W.heap.size W w4) := HB3.out.trans (hb4.mono hz3)
    have hz4 := HB4.out.size
    clear hb4
    go_wp2_with fail
    refine (C3.out _).mono ?_
    rintro e w5 ⟨rfl, hb5⟩
    have HB5 : Hid (Below W.heap.size W w5) := HB4.out.trans (hb5.mono hz4)
    have hz5 := HB5.out.size
    clear hb5
    by_cases z1 : y1 = 0
    · subst z1
      by_cases z2 : y2 = 0
      · subst z2
        by_cases z3 : y3 = 0
        · subst z3
          obtain ⟨g1, g2, g3⟩ := ZH.out rfl
          obtain rfl := g1 rfl
          obtain rfl := g2 rfl
          have G3 := Lib.hid g3
          clear ZH g1 g2 g3
          by_cases hk1 : kind = 1
          · subst hk1
            have G4 := Lib.hid (G3.out rfl)
            clear G3
            go_wp2_with fail
            refine (C4.out _).mono ?_
            rintro e w6 ⟨rfl, hb6⟩
            have HB6 : Hid (Below W.heap.size W w6) := HB5.out.trans (hb6.mono hz5)
            clear hb6
            by_cases z4 : y4 = 0
            · subst z4
              obtain rfl := G4.out rfl
              go_wp2_with fail
              go_ret
              exact ⟨rfl, HB6.out⟩
            · have t4 : (y4 == 0) = false := by simpa using z4
              clear z4
              go_wp2_with fail
              go_ret
              exact ⟨rfl, HB6.out⟩
          · have t1 : (kind == 1) = false := by simpa using hk1
            clear hk1
            go_wp2_with fail
            go_ret
            exact ⟨rfl, HB5.out⟩
        · have t1 : (y3 == 0) = false := by simpa using z3
          have t2 : (y3 != 0) = true := by simpa using z3
          clear z3
          go_wp2_with fail
          go_ret
          exact ⟨rfl, HB5.out⟩
      · have t1 : (y2 == 0) = false := by simpa using z2
        have t2 : (y2 != 0) = true := by simpa using z2
        clear z2
        go_wp2_with fail
        go_ret
        exact ⟨rfl, HB5.out⟩
    · have t1 : (y1 == 0) = false := by simpa using z1
      have t2 : (y1 != 0) = true := by simpa using z1
      clear z1
      go_wp2_with fail
      go_ret
      exact ⟨rfl, HB5.out⟩
  · have HM := Lib.hid hm
    have h' : ¬ digits < 0 := by omega
    go_enter Tryd.func10, Tryd.ntmps10
    go_wp2_with fail
    refine (awake_any _).mono ?_
    rintro e w1 ⟨rfl, hb1⟩
    have HB1 := Lib.hid hb1
    have hz1 := hb1.size
    have HTB := Lib.hid (TB.out.on hb1)
    clear hb1
    go_wp2_with fail
    refine (itoa6_any _ k (by have := HM.out; omega) hk w1 HTB.out.here).mono ?_
    rintro e w2 ⟨rfl, hb2⟩
    have HB2 : Hid (Below W.heap.size W w2) := HB1.out.trans (hb2.mono hz1)
    have hz2 := HB2.out.size
    clear hb2
    go_wp2_with fail
    refine (C1.out _).mono ?_
    rintro e w3 ⟨rfl, hb3⟩
    have HB3 : Hid (Below W.heap.size W w3) := HB2.out.trans (hb3.mono hz2)
    have hz3 := HB3.out.size
    clear hb3
    go_wp2_with fail
    refine (C2.out _).mono ?_
    rintro e w4 ⟨rfl, hb4⟩
    have HB4 : Hid (Below W.heap.size W w4) := HB3.out.trans (hb4.mono hz3)
    have hz4 := HB4.out.size
    clear hb4
    go_wp2_with fail
    refine (C3.out _).mono ?_
    rintro e w5 ⟨rfl, hb5⟩
    have HB5 : Hid (Below W.heap.size W w5) := HB4.out.trans (hb5.mono hz4)
    have hz5 := HB5.out.size
    clear hb5
    by_cases z1 : y1 = 0
    · subst z1
      by_cases z2 : y2 = 0
      · subst z2
        by_cases z3 : y3 = 0
        · subst z3
          obtain ⟨g1, g2, g3⟩ := ZH.out rfl
          obtain rfl := g1 rfl
          obtain rfl := g2 rfl
          have G3 := Lib.hid g3
          clear ZH g1 g2 g3
          by_cases hk1 : kind = 1
          · subst hk1
            have G4 := Lib.hid (G3.out rfl)
            clear G3
            go_wp2_with fail
            refine (C4.out _).mono ?_
            rintro e w6 ⟨rfl, hb6⟩
            have HB6 : Hid (Below W.heap.size W w6) := HB5.out.trans (hb6.mono hz5)
            clear hb6
            by_cases z4 : y4 = 0
            · subst z4
              obtain rfl := G4.out rfl
              go_wp2_with fail
              go_ret
              exact ⟨rfl, HB6.out⟩
            · have t4 : (y4 == 0) = false := by simpa using z4
              clear z4
              go_wp2_with fail
              go_ret
              exact ⟨rfl, HB6.out⟩
          · have t1 : (kind == 1) = false := by simpa using hk1
            clear hk1
            go_wp2_with fail
            go_ret
            exact ⟨rfl, HB5.out⟩
        · have t1 : (y3 == 0) = false := by simpa using z3
          have t2 : (y3 != 0) = true := by simpa using z3
          clear z3
          go_wp2_with fail
          go_ret
          exact ⟨rfl, HB5.out⟩
      · have t1 : (y2 == 0) = false := by simpa using z2
        have t2 : (y2 != 0) = true := by simpa using z2
        clear z2
        go_wp2_with fail
        go_ret
        exact ⟨rfl, HB5.out⟩
    · have t1 : (y1 == 0) = false := by simpa using z1
      have t2 : (y1 != 0) = true := by simpa using z1
      clear z1
      go_wp2_with fail
      go_ret
      exact ⟨rfl, HB5.out⟩

theorem pow_of_laid {W : World} (hL : laidMetH Tryd.prog Rows.evrZerosRow.laid W) : Lib.TabIs Tryd.prog W "internal/strconv.uint64pow10" .u64 Lib.pow10Tab := by
  rw [MakeChecks.laidMetH_plain _ _ _ (by kernel_rfl)] at hL
  have h2 := hL.tail.tail
  have e : (Rows.laid_internal_strconv_uint64pow10 : DataW Unit) = Lib.tabData .u64 Lib.pow10Tab := by kernel_rfl
  rw [e] at h2
  exact Lib.tabIs_of_head (g := 1) (t := 81) (e := 67) (n := 20) (by kernel_rfl) (by kernel_rfl) Tryd.underlying81 Tryd.underlying67 (by kernel_rfl) (by kernel_rfl) h2
theorem evrZeros_walk {H : Type} {enc : TypeId × Value → H} (W : World) {v0 v1 v2 v3 : Value} {d0 d1 d2 d3 : DataW H} (h0 : In enc Tryd.prog W 3 v0 d0) (h1 : In enc Tryd.prog W 3 v1 d1) (h2 : In enc Tryd.prog W 9 v2 d2) (h3 : In enc Tryd.prog W 9 v3 d3)
    (hL : laidMetH Tryd.prog Rows.evrZerosRow.laid W) (hsz : (DataW.weightsEach Tryd.prog [3, 3, 9, 9] [d0, d1, d2, d3]).all (· ≤ reachBytes) = true) :
    Calls Tryd.prog 10 #[v0, v1, v2, v3] W (TrueBelow W) := by
  obtain ⟨kind, rfl, _, _⟩ := h0.int Tryd.underlying3
  obtain ⟨digits, rfl, hd, hw⟩ := h1.int Tryd.underlying3
  obtain ⟨rest, rfl, hr, hrm⟩ := h2.string Tryd.underlying9
  obtain ⟨other, rfl, _, _⟩ := h3.string Tryd.underlying9
  have hs := sized_string hsz (j := 2) (t := 9) rfl (by rw [hr]; rfl)
  simp [Lit.wf, IntKind.min, IntKind.max, IntKind.signed, IntKind.bits] at hw
  exact zeros_any W (pow_of_laid hL) kind digits (by omega) (by omega) rest other (by rw [size_len] at hs; unfold reachBytes at hs; omega)
end Go.Proofs.YtbfpljlgjpmmmaaDoor
