/- The walk of chandlerlaw01.IdsParts: two lists fall into what both have and what each has alone. -/
import Derived.Test.YthkebmnbkolhiaaPartsP
import Derived.Test.YthkebmnbkolhiaaAwake
namespace Go.Proofs.Ythkebmnbkolhiaa
open Go.RowKit

set_option maxHeartbeats 4000000 in
set_option maxRecDepth 100000 in
theorem parts_any (A A' : Option Addr) (c c' n m : Nat) (xs ys : List Int) (w : World) (hl : xs.length = n) (hl' : ys.length = m) (hn : n ≤ 1048576) (hm : m ≤ 1048576) (hr : Rd w w.heap.size A (i64s xs)) (hr' : Rd w w.heap.size A' (i64s ys)) :
    Calls Try.prog 5 #[.slice A n c, .slice A' m c'] w (TrueBelow w) := by
  have HL := Lib.hid hl
  have HL' := Lib.hid hl'
  have HRa := Lib.hid hr
  have HRb := Lib.hid hr'
  have C1 := Lib.hid (awake_any w)
  obtain ⟨L1, hL1⟩ : ∃ L, L = mrg fUnion xs ys := ⟨_, rfl⟩
  obtain ⟨L2, hL2⟩ : ∃ L, L = mrg fMeet xs ys := ⟨_, rfl⟩
  obtain ⟨L3, hL3⟩ : ∃ L, L = mrg fMinus xs ys := ⟨_, rfl⟩
  obtain ⟨L4, hL4⟩ : ∃ L, L = mrg fMinus ys xs := ⟨_, rfl⟩
  obtain ⟨L5, hL5⟩ : ∃ L, L = mrg fUnion L2 L4 := ⟨_, rfl⟩
  have hle1 : L1.length ≤ 2097152 := by rw [hL1]; have := mrg_len fUnion xs ys; omega
  have hle2 : L2.length ≤ 2097152 := by rw [hL2]; have := mrg_len fMeet xs ys; omega
  have hle3 : L3.length ≤ 2097152 := by rw [hL3]; have := mrg_len fMinus xs ys; omega
  have hle4 : L4.length ≤ 2097152 := by rw [hL4]; have := mrg_len fMinus ys xs; omega
  have hle5 : L5.length ≤ 4194304 := by rw [hL5]; have := mrg_len fUnion L2 L4; omega
  have hsum : mrg fUnion L3 L5 = L1 := by rw [hL3, hL5, hL2, hL4, hL1]; exact parts_sum xs ys
  have hlen : L3.length + L2.length + L4.length = L1.length := by rw [hL3, hL2, hL4, hL1]; exact parts_len xs ys
  have hrise : L1.Pairwise (· < ·) := by rw [hL1]; exact mrg_rise _ _ _
  have hc1 : mrg fUnion ys xs = L1 := by rw [hL1]; exact mrg_comm (by intro p q; cases p <;> cases q <;> rfl) _ _
  have hc2 : mrg fMeet ys xs = L2 := by rw [hL2]; exact mrg_comm (by intro p q; cases p <;> cases q <;> rfl) _ _
  have HL1 := Lib.hid hL1
  have HL2 := Lib.hid hL2
  have HL3 := Lib.hid hL3
  have HL4 := Lib.hid hL4
  have HL5 := Lib.hid hL5
  have HSUM := Lib.hid hsum
  have HLEN := Lib.hid hlen
  have HRISE := Lib.hid hrise
  have HC1 := Lib.hid hc1
  have HC2 := Lib.hid hc2
  clear hl hl' hr hr' hL1 hL2 hL3 hL4 hL5 hsum hlen hrise hc1 hc2
  go_enter Try.func5, Try.ntmps5
  go_wp2_with fail
  refine C1.out.mono ?_
  rintro e w1 ⟨rfl, hb0⟩
  clear C1
  have hs1 := hb0.size
  have HRa := Lib.hid (HRa.out.below hb0 (Nat.le_refl _))
  have HRb := Lib.hid (HRb.out.below hb0 (Nat.le_refl _))
  have C := iunion_any A A' c c' w.heap.size n m xs ys w1 HL.out HL'.out (by omega) (by omega) (by omega) HRa.out HRb.out
  rw [← HL1.out] at C
  have C := Lib.hid C
  go_wp2_with fail
  refine C.out.mono ?_
  rintro e w2 ⟨Aall, call, rfl, hcall, hmall, h3, hbn⟩
  clear C
  have hs2 := hbn.size
  have hb0 := hb0.trans (hbn.mono (by omega))
  have HRa := Lib.hid (HRa.out.below hbn (by omega))
  have HRb := Lib.hid (HRb.out.below hbn (by omega))
  have Hall := Lib.hid h3
  clear h3 hbn hmall
  have C := imeet_any A A' c c' w.heap.size n m xs ys w2 HL.out HL'.out (by omega) (by omega) (by omega) HRa.out HRb.out
  rw [← HL2.out] at C
  have C := Lib.hid C
  go_wp2_with fail
  refine C.out.mono ?_
  rintro e w3 ⟨Aboth, cboth, rfl, hcboth, hmboth, h3, hbn⟩
  clear C
  have hs3 := hbn.size
  have hb0 := hb0.trans (hbn.mono (by omega))
  have HRa := Lib.hid (HRa.out.below hbn (by omega))
  have HRb := Lib.hid (HRb.out.below hbn (by omega))
  have Hall := Lib.hid (Hall.out.below hbn (by omega))
  have Hboth := Lib.hid h3
  clear h3 hbn hmboth
  have C := iminus_any A A' c c' w.heap.size n m xs ys w3 HL.out HL'.out (by omega) (by omega) (by omega) HRa.out HRb.out
  rw [← HL3.out] at C
  have C := Lib.hid C
  go_wp2_with fail
  refine C.out.mono ?_
  rintro e w4 ⟨Aleft, cleft, rfl, hcleft, hmleft, h3, hbn⟩
  clear C
  have hs4 := hbn.size
  have hb0 := hb0.trans (hbn.mono (by omega))
  have HRa := Lib.hid (HRa.out.below hbn (by omega))
  have HRb := Lib.hid (HRb.out.below hbn (by omega))
  have Hall := Lib.hid (Hall.out.below hbn (by omega))
  have Hboth := Lib.hid (Hboth.out.below hbn (by omega))
  have Hleft := Lib.hid h3
  clear h3 hbn hmleft
  have C := iminus_any A' A c' c w.heap.size m n ys xs w4 HL'.out HL.out (by omega) (by omega) (by omega) HRb.out HRa.out
  rw [← HL4.out] at C
  have C := Lib.hid C
  go_wp2_with fail
  refine C.out.mono ?_
  rintro e w5 ⟨Aright, cright, rfl, hcright, hmright, h3, hbn⟩
  clear C
  have hs5 := hbn.size
  have hb0 := hb0.trans (hbn.mono (by omega))
  have HRa := Lib.hid (HRa.out.below hbn (by omega))
  have HRb := Lib.hid (HRb.out.below hbn (by omega))
  have Hall := Lib.hid (Hall.out.below hbn (by omega))
  have Hboth := Lib.hid (Hboth.out.below hbn (by omega))
  have Hleft := Lib.hid (Hleft.out.below hbn (by omega))
  have Hright := Lib.hid h3
  clear h3 hbn hmright
  have C := iunion_any A' A c' c w.heap.size m n ys xs w5 HL'.out HL.out (by omega) (by omega) (by omega) HRb.out HRa.out
  rw [HC1.out] at C
  have C := Lib.hid C
  go_wp2_with fail
  refine C.out.mono ?_
  rintro e w6 ⟨Au, cu, rfl, hcu, hmu, h3, hbn⟩
  clear C
  have hs6 := hbn.size
  have hb0 := hb0.trans (hbn.mono (by omega))
  have HRa := Lib.hid (HRa.out.below hbn (by omega))
  have HRb := Lib.hid (HRb.out.below hbn (by omega))
  have Hall := Lib.hid (Hall.out.below hbn (by omega))
  have Hboth := Lib.hid (Hboth.out.below hbn (by omega))
  have Hleft := Lib.hid (Hleft.out.below hbn (by omega))
  have Hright := Lib.hid (Hright.out.below hbn (by omega))
  have Hu := Lib.hid h3
  clear h3 hbn hmu
  have C := same_any Aall Au call cu w2.heap.size w6.heap.size L1.length L1.length L1 L1 w6 rfl rfl (by omega) Hall.out Hu.out
  rw [show decide (L1 = L1) = true from decide_eq_true rfl] at C
  have C := Lib.hid C
  go_wp2_with fail
  refine C.out.mono ?_
  rintro e w7 ⟨rfl, k7, hk7⟩
  have hbn : Below w6.heap.size w6 w7 := by rw [hk7]; exact below_drewN (Below.refl _ _) _
  have hs7 := hbn.size
  have hb0 := hb0.trans (hbn.mono (by omega))
  clear C hk7
  have HRa := Lib.hid (HRa.out.below hbn (by omega))
  have HRb := Lib.hid (HRb.out.below hbn (by omega))
  have Hall := Lib.hid (Hall.out.below hbn (by omega))
  have Hboth := Lib.hid (Hboth.out.below hbn (by omega))
  have Hleft := Lib.hid (Hleft.out.below hbn (by omega))
  have Hright := Lib.hid (Hright.out.below hbn (by omega))
  have Hu := Lib.hid (Hu.out.below hbn (by omega))
  clear hbn
  clear Hu
  have C := imeet_any A' A c' c w.heap.size m n ys xs w7 HL'.out HL.out (by omega) (by omega) (by omega) HRb.out HRa.out
  rw [HC2.out] at C
  have C := Lib.hid C
  go_wp2_with fail
  refine C.out.mono ?_
  rintro e w8 ⟨Av, cv, rfl, hcv, hmv, h3, hbn⟩
  clear C
  have hs8 := hbn.size
  have hb0 := hb0.trans (hbn.mono (by omega))
  have HRa := Lib.hid (HRa.out.below hbn (by omega))
  have HRb := Lib.hid (HRb.out.below hbn (by omega))
  have Hall := Lib.hid (Hall.out.below hbn (by omega))
  have Hboth := Lib.hid (Hboth.out.below hbn (by omega))
  have Hleft := Lib.hid (Hleft.out.below hbn (by omega))
  have Hright := Lib.hid (Hright.out.below hbn (by omega))
  have Hv := Lib.hid h3
  clear h3 hbn hmv
  have C := same_any Aboth Av cboth cv w3.heap.size w8.heap.size L2.length L2.length L2 L2 w8 rfl rfl (by omega) Hboth.out Hv.out
  rw [show decide (L2 = L2) = true from decide_eq_true rfl] at C
  have C := Lib.hid C
  go_wp2_with fail
  refine C.out.mono ?_
  rintro e w9 ⟨rfl, k9, hk9⟩
  have hbn : Below w8.heap.size w8 w9 := by rw [hk9]; exact below_drewN (Below.refl _ _) _
  have hs9 := hbn.size
  have hb0 := hb0.trans (hbn.mono (by omega))
  clear C hk9
  have HRa := Lib.hid (HRa.out.below hbn (by omega))
  have HRb := Lib.hid (HRb.out.below hbn (by omega))
  have Hall := Lib.hid (Hall.out.below hbn (by omega))
  have Hboth := Lib.hid (Hboth.out.below hbn (by omega))
  have Hleft := Lib.hid (Hleft.out.below hbn (by omega))
  have Hright := Lib.hid (Hright.out.below hbn (by omega))
  have Hv := Lib.hid (Hv.out.below hbn (by omega))
  clear hbn
  clear Hv
  have C := iunion_any Aboth Aright cboth cright w9.heap.size L2.length L4.length L2 L4 w9 rfl rfl (by omega) (by omega) (by omega) (Hboth.out.more (by omega)) (Hright.out.more (by omega))
  rw [← HL5.out] at C
  have C := Lib.hid C
  go_wp2_with fail
  refine C.out.mono ?_
  rintro e w10 ⟨Ax, cx, rfl, hcx, hmx, h3, hbn⟩
  clear C
  have hs10 := hbn.size
  have hb0 := hb0.trans (hbn.mono (by omega))
  have HRa := Lib.hid (HRa.out.below hbn (by omega))
  have HRb := Lib.hid (HRb.out.below hbn (by omega))
  have Hall := Lib.hid (Hall.out.below hbn (by omega))
  have Hboth := Lib.hid (Hboth.out.below hbn (by omega))
  have Hleft := Lib.hid (Hleft.out.below hbn (by omega))
  have Hright := Lib.hid (Hright.out.below hbn (by omega))
  have Hx := Lib.hid h3
  clear h3 hbn hmx
  have C := iunion_any Aleft Ax cleft cx w10.heap.size L3.length L5.length L3 L5 w10 rfl rfl (by omega) (by omega) (by omega) (Hleft.out.more (by omega)) (Hx.out.more (by omega))
  rw [HSUM.out] at C
  have C := Lib.hid C
  go_wp2_with fail
  refine C.out.mono ?_
  rintro e w11 ⟨Ay, cy, rfl, hcy, hmy, h3, hbn⟩
  clear C
  have hs11 := hbn.size
  have hb0 := hb0.trans (hbn.mono (by omega))
  have HRa := Lib.hid (HRa.out.below hbn (by omega))
  have HRb := Lib.hid (HRb.out.below hbn (by omega))
  have Hall := Lib.hid (Hall.out.below hbn (by omega))
  have Hboth := Lib.hid (Hboth.out.below hbn (by omega))
  have Hleft := Lib.hid (Hleft.out.below hbn (by omega))
  have Hright := Lib.hid (Hright.out.below hbn (by omega))
  have Hx := Lib.hid (Hx.out.below hbn (by omega))
  have Hy := Lib.hid h3
  clear h3 hbn hmy
  have C := same_any Ay Aall cy call w11.heap.size w2.heap.size L1.length L1.length L1 L1 w11 rfl rfl (by omega) Hy.out Hall.out
  rw [show decide (L1 = L1) = true from decide_eq_true rfl] at C
  have C := Lib.hid C
  go_wp2_with fail
  refine C.out.mono ?_
  rintro e w12 ⟨rfl, k12, hk12⟩
  have hbn : Below w11.heap.size w11 w12 := by rw [hk12]; exact below_drewN (Below.refl _ _) _
  have hs12 := hbn.size
  have hb0 := hb0.trans (hbn.mono (by omega))
  clear C hk12
  have HRa := Lib.hid (HRa.out.below hbn (by omega))
  have HRb := Lib.hid (HRb.out.below hbn (by omega))
  have Hall := Lib.hid (Hall.out.below hbn (by omega))
  have Hboth := Lib.hid (Hboth.out.below hbn (by omega))
  have Hleft := Lib.hid (Hleft.out.below hbn (by omega))
  have Hright := Lib.hid (Hright.out.below hbn (by omega))
  have Hx := Lib.hid (Hx.out.below hbn (by omega))
  have Hy := Lib.hid (Hy.out.below hbn (by omega))
  clear hbn
  clear Hx Hy Hboth Hleft Hright HRa HRb
  go_wp2_with fail
  have hfl : ((L3.length : Int) + (L2.length : Int) + (L4.length : Int) == (L1.length : Int)) = true := by have := HLEN.out; simp; omega
  have HFL := Lib.hid hfl
  clear hfl
  go_loopw [13] (fun i wr => ∃ k d : Nat, 1 ≤ k ∧ (k ≤ L1.length ∨ k = 1) ∧ i = .int .i64 (k : Int) ∧ wr = w12.drewN d) (fun i _ => L1.length - (intOf i).toNat)
  case atStart => exact ⟨1, 0, by omega, by omega, rfl, rfl⟩
  case round =>
    obtain ⟨k, d, hk1, hk2, rfl, rfl⟩ := hrel
    by_cases hlt : k < L1.length
    · have hlt' : (k : Int) < (L1.length : Int) := by omega
      have hkm : k - 1 < L1.length := by omega
      obtain ⟨b, o, rfl, _, hc0⟩ := Hall.out (k - 1) (.int .i64 (L1[k - 1]'hkm)) (by simp [i64s, List.getElem?_eq_getElem hkm])
      obtain ⟨b', o', hA, _, hc1⟩ := Hall.out k (.int .i64 (L1[k]'hlt)) (by simp [i64s, List.getElem?_eq_getElem hlt])
      injection hA with hA
      injection hA with h1 h2
      subst h1
      subst h2
      have hlt2 := List.pairwise_iff_getElem.1 HRISE.out (k - 1) k hkm hlt (by omega)
      generalize L1[k - 1]'hkm = x at hc0 hlt2
      generalize L1[k]'hlt = y at hc1 hlt2
      obtain ⟨j, rfl⟩ : ∃ j, k = j + 1 := ⟨k - 1, by omega⟩
      simp only [Nat.add_sub_cancel] at hc0 hkm
      have i0 : (0 : Int) ≤ (j : Int) := by omega
      have i1 : (j : Int) < (L1.length : Int) := by omega
      have i2 : (j : Int) + 1 < (L1.length : Int) := by omega
      have hge : decide (y ≤ x) = false := by simp; omega
      clear hk2
      go_wp2_with fail
      go_quiet (fail)
      go_wp2_with fail
      go_roundw
      case rel => go_light; exact ⟨j + 1 + 1, _, by omega, by omega, by go_num, rfl⟩
      case measure => go_light; simp only [intOf]; omega
    · have hlt' : ¬ (k : Int) < (L1.length : Int) := by omega
      have hfl := HFL.out
      go_wp2_with fail
      go_ret
      exact ⟨rfl, below_drewN hb0 d⟩
end Go.Proofs.Ythkebmnbkolhiaa
