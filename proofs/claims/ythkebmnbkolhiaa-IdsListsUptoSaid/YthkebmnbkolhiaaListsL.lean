/- The walk of chandlerlaw01.IdsLists: lists are sorted, joined and parted as the document says, and stay themselves. -/
import Derived.Test.YthkebmnbkolhiaaSetsW
import Derived.Test.YthkebmnbkolhiaaAwake
namespace Go.Proofs.Ythkebmnbkolhiaa
open Go.RowKit

set_option maxHeartbeats 4000000 in
set_option maxRecDepth 100000 in
theorem lists_any (A A' : Option Addr) (c c' n m : Nat) (xs ys : List Int) (w : World) (hl : xs.length = n) (hl' : ys.length = m) (hn : n ≤ 1048576) (hm : m ≤ 1048576) (hr : Rd w w.heap.size A (i64s xs)) (hr' : Rd w w.heap.size A' (i64s ys)) :
    Calls Try.prog 4 #[.slice A n c, .slice A' m c'] w (TrueBelow w) := by
  have HL := Lib.hid hl
  have HL' := Lib.hid hl'
  have HRa := Lib.hid hr
  have HRb := Lib.hid hr'
  have C1 := Lib.hid (awake_any w)
  clear hl hl' hr hr'
  obtain ⟨L1, hL1⟩ : ∃ L, L = srt xs := ⟨_, rfl⟩
  obtain ⟨L2, hL2⟩ : ∃ L, L = srt (xs ++ ys) := ⟨_, rfl⟩
  obtain ⟨L3, hL3⟩ : ∃ L, L = srt (kIn ys xs) := ⟨_, rfl⟩
  obtain ⟨L4, hL4⟩ : ∃ L, L = srt (kOut ys xs) := ⟨_, rfl⟩
  have hle1 : L1.length ≤ n := by rw [hL1]; have := srt_len xs; have := HL.out; omega
  have hle2 : L2.length ≤ n + m := by rw [hL2]; have := srt_len (xs ++ ys); have := HL.out; have := HL'.out; rw [List.length_append] at *; omega
  have hle3 : L3.length ≤ n := by rw [hL3]; have := srt_len (kIn ys xs); have := kIn_len ys xs; have := HL.out; omega
  have hle4 : L4.length ≤ n := by rw [hL4]; have := srt_len (kOut ys xs); have := kOut_len ys xs; have := HL.out; omega
  have HL1 := Lib.hid hL1
  have HL2 := Lib.hid hL2
  have HL3 := Lib.hid hL3
  have HL4 := Lib.hid hL4
  clear hL1 hL2 hL3 hL4
  go_enter Try.func4, Try.ntmps4
  go_wp2_with fail
  refine C1.out.mono ?_
  rintro e w1 ⟨rfl, hb1⟩
  clear C1
  have hs1 := hb1.size
  have HRa := Lib.hid (HRa.out.below hb1 (Nat.le_refl _))
  have HRb := Lib.hid (HRb.out.below hb1 (Nat.le_refl _))
  go_wp2_with (first
    | (at_builtin; refine app64 rfl _ _ rfl w1.heap.size _ 0 [] rfl (own_new0 w1 3) w.heap.size A n c xs rfl HL.out (HRa.out.below ((Below.refl w1.heap.size w1).alloc (Nat.le_refl _) _) hs1) (by omega) (by simp) ?_; intro v2 w2 hown2 hb2; simp only [Nat.zero_add, List.nil_append] at hown2; have hs2 := hb2.size; simp only [World.size_alloc] at hs2; have hb12 : Below w1.heap.size w1 w2 := ((Below.refl w1.heap.size w1).alloc (Nat.le_refl _) _).trans hb2; clear hb2)
    | (at_builtin; refine app64 rfl _ _ rfl w2.heap.size _ 0 [] rfl (own_new0 w2 3) w.heap.size A' m c' ys rfl HL'.out ((HRb.out.below hb12 hs1).below ((Below.refl w2.heap.size w2).alloc (Nat.le_refl _) _) (by omega)) (by omega) (by simp) ?_; intro v3 w3 hown3 hb3; simp only [Nat.zero_add, List.nil_append] at hown3; have hs3 := hb3.size; simp only [World.size_alloc] at hs3; have hb23 : Below w2.heap.size w2 w3 := ((Below.refl w2.heap.size w2).alloc (Nat.le_refl _) _).trans hb3; clear hb3; obtain ⟨_, Ax, cx, rfl, hcx, _⟩ := own_form hown2; obtain ⟨_, Ay, cy, rfl, hcy, _⟩ := own_form hown3))
  have hs12 : w1.heap.size ≤ w2.heap.size := by omega
  have hs23 : w2.heap.size ≤ w3.heap.size := by omega
  have hb13 : Below w1.heap.size w1 w3 := hb12.trans (hb23.mono hs12)
  have hb0 := hb1.trans (hb13.mono hs1)
  have HRa := Lib.hid (HRa.out.below hb13 hs1)
  have HRb := Lib.hid (HRb.out.below hb13 hs1)
  have HRx := Lib.hid (((Rd.own hown2).below hb23 (Nat.le_refl _)).more hs23)
  have HRy := Lib.hid (Rd.own hown3)
  clear hown2 hown3 hb1 hb12 hb23 hb13 hs2 hs3
  have C := sort_lst Ax n cx w3.heap.size xs w3 HL.out (by omega) HRx.out
  rw [← HL1.out] at C
  have C := Lib.hid C
  go_wp2_with fail
  refine C.out.mono ?_
  rintro e w4 ⟨Ap1, cp1, rfl, hcp1, hmp1, h3, hbn⟩
  clear C
  have Hp1 := Lib.hid h3
  have hs4 := hbn.size
  have hb0 := hb0.trans (hbn.mono (by omega))
  have HRa := Lib.hid (HRa.out.below hbn (by omega))
  have HRb := Lib.hid (HRb.out.below hbn (by omega))
  have HRx := Lib.hid (HRx.out.below hbn (by omega))
  have HRy := Lib.hid (HRy.out.below hbn (by omega))
  clear h3 hbn hmp1
  have C := rsort_any A c w.heap.size n xs w4 HL.out (by omega) hb0.size HRa.out
  rw [← HL1.out] at C
  have C := Lib.hid C
  go_wp2_with fail
  refine C.out.mono ?_
  rintro e w5 ⟨Aq1, cq1, rfl, hcq1, hmq1, h3, hbn⟩
  clear C
  have Hq1 := Lib.hid h3
  have hs5 := hbn.size
  have hb0 := hb0.trans (hbn.mono (by omega))
  have HRa := Lib.hid (HRa.out.below hbn (by omega))
  have HRb := Lib.hid (HRb.out.below hbn (by omega))
  have HRx := Lib.hid (HRx.out.below hbn (by omega))
  have HRy := Lib.hid (HRy.out.below hbn (by omega))
  have Hp1 := Lib.hid (Hp1.out.below hbn (Nat.le_refl _))
  clear h3 hbn hmq1
  have C := same_any Ap1 Aq1 cp1 cq1 w4.heap.size w5.heap.size L1.length L1.length L1 L1 w5 rfl rfl (by omega) Hp1.out Hq1.out
  rw [show decide (L1 = L1) = true from decide_eq_true rfl] at C
  have C := Lib.hid C
  go_wp2_with fail
  refine C.out.mono ?_
  rintro e w6 ⟨rfl, k6, hk6⟩
  have hbn : Below w5.heap.size w5 w6 := by rw [hk6]; exact below_drewN (Below.refl _ _) _
  have hs6 := hbn.size
  have hb0 := hb0.trans (hbn.mono (by omega))
  clear C hk6
  have HRa := Lib.hid (HRa.out.below hbn (by omega))
  have HRb := Lib.hid (HRb.out.below hbn (by omega))
  have HRx := Lib.hid (HRx.out.below hbn (by omega))
  have HRy := Lib.hid (HRy.out.below hbn (by omega))
  clear hbn
  clear Hp1 Hq1
  have C := iunion_any Ax Ay cx cy w3.heap.size n m xs ys w6 HL.out HL'.out (by omega) (by omega) (by omega) HRx.out HRy.out
  rw [mrg_union, ← HL2.out] at C
  have C := Lib.hid C
  go_wp2_with fail
  refine C.out.mono ?_
  rintro e w7 ⟨Ap2, cp2, rfl, hcp2, hmp2, h3, hbn⟩
  clear C
  have Hp2 := Lib.hid h3
  have hs7 := hbn.size
  have hb0 := hb0.trans (hbn.mono (by omega))
  have HRa := Lib.hid (HRa.out.below hbn (by omega))
  have HRb := Lib.hid (HRb.out.below hbn (by omega))
  have HRx := Lib.hid (HRx.out.below hbn (by omega))
  have HRy := Lib.hid (HRy.out.below hbn (by omega))
  clear h3 hbn hmp2
  have C := runion_any A A' c c' w.heap.size n m xs ys w7 HL.out HL'.out hn hm hb0.size HRa.out HRb.out
  rw [← HL2.out] at C
  have C := Lib.hid C
  go_wp2_with fail
  refine C.out.mono ?_
  rintro e w8 ⟨Aq2, cq2, rfl, hcq2, hmq2, h3, hbn⟩
  clear C
  have Hq2 := Lib.hid h3
  have hs8 := hbn.size
  have hb0 := hb0.trans (hbn.mono (by omega))
  have HRa := Lib.hid (HRa.out.below hbn (by omega))
  have HRb := Lib.hid (HRb.out.below hbn (by omega))
  have HRx := Lib.hid (HRx.out.below hbn (by omega))
  have HRy := Lib.hid (HRy.out.below hbn (by omega))
  have Hp2 := Lib.hid (Hp2.out.below hbn (Nat.le_refl _))
  clear h3 hbn hmq2
  have C := same_any Ap2 Aq2 cp2 cq2 w7.heap.size w8.heap.size L2.length L2.length L2 L2 w8 rfl rfl (by omega) Hp2.out Hq2.out
  rw [show decide (L2 = L2) = true from decide_eq_true rfl] at C
  have C := Lib.hid C
  go_wp2_with fail
  refine C.out.mono ?_
  rintro e w9 ⟨rfl, k9, hk9⟩
  have hbn : Below w8.heap.size w8 w9 := by rw [hk9]; exact below_drewN (Below.refl _ _) _
  have hs9 := hbn.size
  have hb0 := hb0.trans (hbn.mono (by omega))
  clear C hk9
  have HRa := Lib.hid (HRa.out.below hbn (by omega))
  have HRb := Lib.hid (HRb.out.below hbn (by omega))
  have HRx := Lib.hid (HRx.out.below hbn (by omega))
  have HRy := Lib.hid (HRy.out.below hbn (by omega))
  clear hbn
  clear Hp2 Hq2
  have C := imeet_any Ax Ay cx cy w3.heap.size n m xs ys w9 HL.out HL'.out (by omega) (by omega) (by omega) HRx.out HRy.out
  rw [mrg_meet, ← HL3.out] at C
  have C := Lib.hid C
  go_wp2_with fail
  refine C.out.mono ?_
  rintro e w10 ⟨Ap3, cp3, rfl, hcp3, hmp3, h3, hbn⟩
  clear C
  have Hp3 := Lib.hid h3
  have hs10 := hbn.size
  have hb0 := hb0.trans (hbn.mono (by omega))
  have HRa := Lib.hid (HRa.out.below hbn (by omega))
  have HRb := Lib.hid (HRb.out.below hbn (by omega))
  have HRx := Lib.hid (HRx.out.below hbn (by omega))
  have HRy := Lib.hid (HRy.out.below hbn (by omega))
  clear h3 hbn hmp3
  have C := rmeet_any A A' c c' w.heap.size n m xs ys w10 HL.out HL'.out hn hm hb0.size HRa.out HRb.out
  rw [← HL3.out] at C
  have C := Lib.hid C
  go_wp2_with fail
  refine C.out.mono ?_
  rintro e w11 ⟨Aq3, cq3, rfl, hcq3, hmq3, h3, hbn⟩
  clear C
  have Hq3 := Lib.hid h3
  have hs11 := hbn.size
  have hb0 := hb0.trans (hbn.mono (by omega))
  have HRa := Lib.hid (HRa.out.below hbn (by omega))
  have HRb := Lib.hid (HRb.out.below hbn (by omega))
  have HRx := Lib.hid (HRx.out.below hbn (by omega))
  have HRy := Lib.hid (HRy.out.below hbn (by omega))
  have Hp3 := Lib.hid (Hp3.out.below hbn (Nat.le_refl _))
  clear h3 hbn hmq3
  have C := same_any Ap3 Aq3 cp3 cq3 w10.heap.size w11.heap.size L3.length L3.length L3 L3 w11 rfl rfl (by omega) Hp3.out Hq3.out
  rw [show decide (L3 = L3) = true from decide_eq_true rfl] at C
  have C := Lib.hid C
  go_wp2_with fail
  refine C.out.mono ?_
  rintro e w12 ⟨rfl, k12, hk12⟩
  have hbn : Below w11.heap.size w11 w12 := by rw [hk12]; exact below_drewN (Below.refl _ _) _
  have hs12 := hbn.size
  have hb0 := hb0.trans (hbn.mono (by omega))
  clear C hk12
  have HRa := Lib.hid (HRa.out.below hbn (by omega))
  have HRb := Lib.hid (HRb.out.below hbn (by omega))
  have HRx := Lib.hid (HRx.out.below hbn (by omega))
  have HRy := Lib.hid (HRy.out.below hbn (by omega))
  clear hbn
  clear Hp3 Hq3
  have C := iminus_any Ax Ay cx cy w3.heap.size n m xs ys w12 HL.out HL'.out (by omega) (by omega) (by omega) HRx.out HRy.out
  rw [mrg_minus, ← HL4.out] at C
  have C := Lib.hid C
  go_wp2_with fail
  refine C.out.mono ?_
  rintro e w13 ⟨Ap4, cp4, rfl, hcp4, hmp4, h3, hbn⟩
  clear C
  have Hp4 := Lib.hid h3
  have hs13 := hbn.size
  have hb0 := hb0.trans (hbn.mono (by omega))
  have HRa := Lib.hid (HRa.out.below hbn (by omega))
  have HRb := Lib.hid (HRb.out.below hbn (by omega))
  have HRx := Lib.hid (HRx.out.below hbn (by omega))
  have HRy := Lib.hid (HRy.out.below hbn (by omega))
  clear h3 hbn hmp4
  have C := rminus_any A A' c c' w.heap.size n m xs ys w13 HL.out HL'.out hn hm hb0.size HRa.out HRb.out
  rw [← HL4.out] at C
  have C := Lib.hid C
  go_wp2_with fail
  refine C.out.mono ?_
  rintro e w14 ⟨Aq4, cq4, rfl, hcq4, hmq4, h3, hbn⟩
  clear C
  have Hq4 := Lib.hid h3
  have hs14 := hbn.size
  have hb0 := hb0.trans (hbn.mono (by omega))
  have HRa := Lib.hid (HRa.out.below hbn (by omega))
  have HRb := Lib.hid (HRb.out.below hbn (by omega))
  have HRx := Lib.hid (HRx.out.below hbn (by omega))
  have HRy := Lib.hid (HRy.out.below hbn (by omega))
  have Hp4 := Lib.hid (Hp4.out.below hbn (Nat.le_refl _))
  clear h3 hbn hmq4
  have C := same_any Ap4 Aq4 cp4 cq4 w13.heap.size w14.heap.size L4.length L4.length L4 L4 w14 rfl rfl (by omega) Hp4.out Hq4.out
  rw [show decide (L4 = L4) = true from decide_eq_true rfl] at C
  have C := Lib.hid C
  go_wp2_with fail
  refine C.out.mono ?_
  rintro e w15 ⟨rfl, k15, hk15⟩
  have hbn : Below w14.heap.size w14 w15 := by rw [hk15]; exact below_drewN (Below.refl _ _) _
  have hs15 := hbn.size
  have hb0 := hb0.trans (hbn.mono (by omega))
  clear C hk15
  have HRa := Lib.hid (HRa.out.below hbn (by omega))
  have HRb := Lib.hid (HRb.out.below hbn (by omega))
  have HRx := Lib.hid (HRx.out.below hbn (by omega))
  have HRy := Lib.hid (HRy.out.below hbn (by omega))
  clear hbn
  clear Hp4 Hq4
  have C := same_any Ax A cx c w3.heap.size w.heap.size n n xs xs w15 HL.out HL.out (by omega) HRx.out HRa.out
  rw [show decide (xs = xs) = true from decide_eq_true rfl] at C
  have C := Lib.hid C
  go_wp2_with fail
  refine C.out.mono ?_
  rintro e w16 ⟨rfl, k16, hk16⟩
  have hbn : Below w15.heap.size w15 w16 := by rw [hk16]; exact below_drewN (Below.refl _ _) _
  have hs16 := hbn.size
  have hb0 := hb0.trans (hbn.mono (by omega))
  clear C hk16
  have HRa := Lib.hid (HRa.out.below hbn (by omega))
  have HRb := Lib.hid (HRb.out.below hbn (by omega))
  have HRx := Lib.hid (HRx.out.below hbn (by omega))
  have HRy := Lib.hid (HRy.out.below hbn (by omega))
  clear hbn
  have C := same_any Ay A' cy c' w3.heap.size w.heap.size m m ys ys w16 HL'.out HL'.out (by omega) HRy.out HRb.out
  rw [show decide (ys = ys) = true from decide_eq_true rfl] at C
  have C := Lib.hid C
  go_wp2_with fail
  refine C.out.mono ?_
  rintro e w17 ⟨rfl, k17, hk17⟩
  have hbn : Below w16.heap.size w16 w17 := by rw [hk17]; exact below_drewN (Below.refl _ _) _
  have hs17 := hbn.size
  have hb0 := hb0.trans (hbn.mono (by omega))
  clear C hk17
  have HRa := Lib.hid (HRa.out.below hbn (by omega))
  have HRb := Lib.hid (HRb.out.below hbn (by omega))
  have HRx := Lib.hid (HRx.out.below hbn (by omega))
  have HRy := Lib.hid (HRy.out.below hbn (by omega))
  clear hbn
  go_wp2_with fail
  go_ret
  exact ⟨rfl, hb0⟩
end Go.Proofs.Ythkebmnbkolhiaa
