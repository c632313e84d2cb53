/- The walk of chandlerlaw01.IdsReads: bytes are read, and numbers laid, as the document says. -/
import Derived.Test.YthkebmnbkolhiaaAwake
import Derived.Test.YthkebmnbkolhiaaBytesW
import Derived.Test.YthkebmnbkolhiaaRTakeW
namespace Go.Proofs.Ythkebmnbkolhiaa
open Go.RowKit

set_option maxHeartbeats 2000000 in
theorem reads_any (A : Option Addr) (l c x : Nat) (bs : List Nat) (w : World) (hx : x < 2 ^ 64) (hl : bs.length = l) (hl2 : l ≤ 140737488351232) (hbb : ∀ x ∈ bs, x < 256) (hr : Rd w w.heap.size A (u8s bs)) :
    Calls Try.prog 6 #[.slice A l c, .int .u64 (x : Int)] w (TrueBelow w) := by
  have hP := putF_len 9 x
  have C1 := Lib.hid (awake_any w)
  have HX := Lib.hid (Nat.lt_of_lt_of_le hx (by decide : 2 ^ 64 ≤ 128 ^ 10))
  have HX2 := Lib.hid hx
  have HL := Lib.hid hl
  have HB := Lib.hid hbb
  have HR := Lib.hid hr
  generalize hPP : putF 9 x = P at *
  have HP := Lib.hid hPP
  clear hx hl hbb hr hPP
  go_enter Try.func6, Try.ntmps6
  go_wp2_with fail
  refine C1.out.mono ?_
  rintro e w1 ⟨rfl, hb1⟩
  have hs1 := hb1.size
  have HR1 := Lib.hid (HR.out.below hb1 (Nat.le_refl _))
  have C2 := Lib.hid (take_any A l c w.heap.size bs w1 HB.out HL.out (by omega) HR1.out)
  have C3 := Lib.hid (rtake_any A l c w.heap.size bs w1 HB.out HL.out (by omega) HR1.out)
  generalize takeF 0 0 bs = T at *
  obtain ⟨t1, t2, t3⟩ := T
  go_wp2_with fail
  refine C2.out.mono ?_
  rintro e w2 ⟨rfl, rfl⟩
  go_wp2_with fail
  refine C3.out.mono ?_
  rintro e w3 ⟨rfl, rfl⟩
  clear C1 C2 C3
  go_wp2_with (at_builtin; go_must (refine app8 rfl _ _ rfl w3.heap.size _ 0 [] rfl (own_new0 w3 5) w.heap.size A l c bs rfl HL.out (HR1.out.below ((Below.refl w3.heap.size w3).alloc (Nat.le_refl _) _) (by omega)) (by omega) (by simp) ?_); intro v4 w4 hown4 hb4; simp only [Nat.zero_add, List.nil_append] at hown4; obtain ⟨_, A4, c4, rfl, hc4, _⟩ := own_form hown4)
  have hs4 := hb4.size
  simp only [World.size_alloc] at hs4
  have hs34 : w3.heap.size ≤ w4.heap.size := by omega
  have hbel4 : Below w.heap.size w w4 := hb1.trans (((Below.refl w3.heap.size w3).alloc (Nat.le_refl _) _).trans hb4 |>.mono hs1)
  have HR4 := Lib.hid (HR.out.below hbel4 (Nat.le_refl _))
  have HW4 := Lib.hid (Rd.own hown4)
  have C4 := put_any A4 l c4 w4.heap.size x bs w4 HL.out (by omega) HW4.out (Nat.le_refl _) HX.out
  rw [HP.out] at C4
  have C4 := Lib.hid C4
  clear hown4 hb4 hb1
  go_wp2_with fail
  refine C4.out.mono ?_
  rintro e w5 ⟨v5, rfl, hown5, hb5⟩
  clear C4
  obtain ⟨_, A5, c5, rfl, hc5, _⟩ := own_form hown5
  have hs5 := hb5.size
  have hbel5 : Below w.heap.size w w5 := hbel4.trans (hb5.mono (by omega))
  have HR5 := Lib.hid (HR4.out.below hb5 (by omega))
  have HW5 := Lib.hid (HW4.out.below hb5 (Nat.le_refl _))
  have HV5 := Lib.hid (Rd.own hown5)
  clear hown5 hb5 hbel4 HR4
  go_wp2_with (at_builtin; go_must (refine app8 rfl _ _ rfl w5.heap.size _ 0 [] rfl (own_new0 w5 5) w.heap.size A l c bs rfl HL.out (HR5.out.below ((Below.refl w5.heap.size w5).alloc (Nat.le_refl _) _) (by omega)) (by omega) (by simp) ?_); intro v6 w6 hown6 hb6; simp only [Nat.zero_add, List.nil_append] at hown6; obtain ⟨_, A6, c6, rfl, hc6, _⟩ := own_form hown6)
  have hs6 := hb6.size
  simp only [World.size_alloc] at hs6
  have hb56 : Below w5.heap.size w5 w6 := ((Below.refl w5.heap.size w5).alloc (Nat.le_refl _) _).trans hb6
  have C6 := bytes_any x w6 HX2.out
  rw [HP.out] at C6
  have C6 := Lib.hid C6
  have HO6 := Lib.hid hown6
  clear hb6 hown6
  go_wp2_with fail
  refine C6.out.mono ?_
  rintro e w7 ⟨v7, rfl, hown7, hb7⟩
  clear C6
  obtain ⟨_, A7, c7, rfl, hc7, _⟩ := own_form hown7
  have hs7 := hb7.size
  have HO7 := Lib.hid (own_below HO6.out hb7 (Nat.le_refl _))
  have HR7 := Lib.hid (Rd.own hown7)
  have hb57 : Below w5.heap.size w5 w7 := hb56.trans (hb7.mono (by omega))
  clear hown7 hb7 HO6 hb56
  go_wp2_with (at_builtin; go_must (refine app8 rfl _ _ rfl w5.heap.size _ l bs rfl HO7.out w7.heap.size A7 P.length c7 P rfl rfl HR7.out (by omega) (by omega) ?_); intro v8 w8 hown8 hb8
               obtain ⟨_, A8, c8, rfl, hc8, _⟩ := own_form hown8
               have hb58 := hb57.trans hb8
               have k1 := conv_rd (P := Try.prog) 27 5 9 Try.underlying27 Try.underlying5 Try.underlying9 (bs.length + P.length) c5 (by simp) (HV5.out.below hb58 (Nat.le_refl _))
               have k2 := conv_rd (P := Try.prog) 27 5 9 Try.underlying27 Try.underlying5 Try.underlying9 (l + P.length) c8 (by have := HL.out; simp; omega) (Rd.own hown8)
               have k3 := conv_rd (P := Try.prog) 27 5 9 Try.underlying27 Try.underlying5 Try.underlying9 l c4 HL.out (HW5.out.below hb58 (by omega))
               have k4 := conv_rd (P := Try.prog) 27 5 9 Try.underlying27 Try.underlying5 Try.underlying9 l c HL.out (HR5.out.below hb58 (by omega))
               have hfin := hbel5.trans (hb58.mono (by omega))
               clear hown8 hb8 hb58 hb57 HV5 HW5 HR5 HR7 HO7)
  go_ret
  exact ⟨rfl, hfin⟩
end Go.Proofs.Ythkebmnbkolhiaa
