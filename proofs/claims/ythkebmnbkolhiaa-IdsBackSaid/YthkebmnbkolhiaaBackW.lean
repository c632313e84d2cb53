/- The walk of chandlerlaw01.IdsBack: a number comes back from its bytes, and none of two numbers' bytes begins with the other's. -/
import Derived.Test.YthkebmnbkolhiaaAwake
import Derived.Deep.QuietTactic
import Derived.BigQuiet
namespace Go.Proofs.Ythkebmnbkolhiaa
open Go.RowKit

set_option maxHeartbeats 2000000 in
theorem back_any (n m : Nat) (A : Option Addr) (l c : Nat) (bs : List Nat) (w : World) (hn : n < 2 ^ 64) (hm : m < 2 ^ 64) (hl : bs.length = l) (hl2 : l ≤ 140737488351232) (hbb : ∀ x ∈ bs, x < 256) (hr : Rd w w.heap.size A (u8s bs)) :
    Calls Try.prog 7 #[.int .u64 (n : Int), .int .u64 (m : Int), .slice A l c] w (TrueBelow w) := by
  have hT := take_put0 n hn bs
  have hP := putF_len 9 n
  have hQ := putF_len 9 m
  have hPb : ∀ x ∈ putF 9 n, x < 256 := putF_lt 9 n (Nat.lt_of_lt_of_le hn (by decide))
  have hQb : ∀ x ∈ putF 9 m, x < 256 := putF_lt 9 m (Nat.lt_of_lt_of_le hm (by decide))
  have hap := put_apart n m hn hm
  have C1 := Lib.hid (awake_any w)
  have C2 := fun W : World => put_any none 0 0 0 n [] W rfl (by omega) Rd.nil (by omega) (Nat.lt_of_lt_of_le hn (by decide))
  have C3 := fun W : World => put_any none 0 0 0 m [] W rfl (by omega) Rd.nil (by omega) (Nat.lt_of_lt_of_le hm (by decide))
  simp only [List.nil_append] at C2 C3
  have C2 := Lib.hid C2
  have C3 := Lib.hid C3
  generalize putF 9 n = P at *
  generalize putF 9 m = Q at *
  have HT := Lib.hid hT
  have HPb := Lib.hid hPb
  have HQb := Lib.hid hQb
  have HL := Lib.hid hl
  have HB := Lib.hid hbb
  clear hbb
  have HR := Lib.hid hr
  clear hT hPb hQb hl hr hn hm
  have Hap := Lib.hid hap
  clear hap
  go_enter Try.func7, Try.ntmps7
  go_wp2_with fail
  refine C1.out.mono ?_
  rintro e w1 ⟨rfl, hb1⟩
  have hs1 := hb1.size
  go_wp2_with fail
  refine (C2.out w1).mono ?_
  rintro e w2 ⟨v2, rfl, hown2, hb2⟩
  have hs2 := hb2.size
  go_wp2_with fail
  refine (C3.out w2).mono ?_
  rintro e w3 ⟨v3, rfl, hown3, hb3⟩
  have hs3 := hb3.size
  obtain ⟨_, A2, c2, rfl, hc2, _⟩ := own_form hown2
  obtain ⟨_, A3, c3, rfl, hc3, _⟩ := own_form hown3
  have hr2 := (Rd.own hown2).below hb3 (Nat.le_refl _)
  have hr3 := Rd.own hown3
  have hbel3 : Below w.heap.size w w3 := (hb1.trans (hb2.mono hs1)).trans (hb3.mono (by omega))
  have HRa := Lib.hid hr2
  have HRb := Lib.hid hr3
  have HRc := Lib.hid (HR.out.below hbel3 (Nat.le_refl _))
  clear hr2 hr3 hown2 hown3 C1 C2 C3 HR hb1 hb2 hb3
  go_wp2_with (first
    | (at_builtin; refine app8 rfl _ _ rfl w3.heap.size _ 0 [] rfl (own_new0 w3 5) w3.heap.size A2 P.length c2 P rfl rfl ((HRa.out.below ((Below.refl w3.heap.size w3).alloc (Nat.le_refl _) _) (by omega)).more (by omega)) (by omega) (by simp) ?_; intro v4 w4 hown4 hb4; simp only [Nat.zero_add, List.nil_append] at hown4)
    | (at_builtin; refine app8 rfl _ _ rfl w3.heap.size _ _ _ rfl hown4 w3.heap.size A l c bs rfl HL.out ((HRc.out.below (((Below.refl w3.heap.size w3).alloc (Nat.le_refl _) _).trans hb4) (by omega)).more (by omega)) (by omega) (by have := hb4.size; simp at this; omega) ?_; intro v5 w5 hown5 hb5))
  obtain ⟨_, A5, c5, rfl, hc5, _⟩ := own_form hown5
  have hr5 := Rd.own hown5
  have hs5 := hb5.size
  have hs4 := hb4.size
  simp only [World.size_alloc] at hs4
  have hb35 : Below w3.heap.size w3 w5 := (((Below.refl w3.heap.size w3).alloc (Nat.le_refl _) _).trans hb4).trans hb5
  have hbel5 : Below w.heap.size w w5 := hbel3.trans (hb35.mono (by omega))
  have hT := take_any A5 (P.length + l) c5 w5.heap.size (P ++ bs) w5 (by
      intro x hx
      rcases List.mem_append.1 hx with h | h
      · exact HPb.out x h
      · exact HB.out x h) (by have := HL.out; simp; omega) (by omega) hr5
  rw [HT.out] at hT
  have HTk := Lib.hid hT
  have conv2 : ∀ k, (convert 27 9 (.slice A2 P.length c2)).run Try.prog (w5.drewN k) = .ok (.string (strOf P)) (w5.drewN k) := fun k =>
    conv_rd _ 5 _ Try.underlying27 Try.underlying5 Try.underlying9 _ _ rfl ((HRa.out.below hb35 (by omega)).below (below_drewN (Below.refl w2.heap.size w5) k) (Nat.le_refl _))
  have conv3 : ∀ k, P.length ≤ Q.length → (convert 27 9 (.slice A3 P.length c3)).run Try.prog (w5.drewN k) = .ok (.string (strOf (Q.take P.length))) (w5.drewN k) := fun k hle =>
    conv_rd _ 5 _ Try.underlying27 Try.underlying5 Try.underlying9 _ _ (by rw [List.length_take]; omega)
      (by have := ((HRb.out.below hb35 (Nat.le_refl _)).below (below_drewN (Below.refl w3.heap.size w5) k) (Nat.le_refl _)).take P.length; rw [show u8s (Q.take P.length) = (u8s Q).take P.length from List.map_take]; exact this)
  clear hT hr5 hown5 hown4 HRa HRb HRc hb4 hb5 hb35 hbel3
  go_wp2_with fail
  refine HTk.out.mono ?_
  rintro e w6 ⟨rfl, rfl⟩
  go_wp2_with fail
  by_cases hnm : n = m
  · subst hnm
    have hpre : P <+: Q := Hap.out.2 rfl
    have hle : P.length ≤ Q.length := hpre.length_le
    have htake : Q.take P.length = P := (List.prefix_iff_eq_take.1 hpre).symm
    have hle' : (P.length : Int) ≤ (Q.length : Int) := by omega
    have hc3' : (P.length : Int) ≤ (c3 : Int) := by omega
    have conv3' := fun k => conv3 k hle
    rw [htake] at conv3'
    clear conv3 hpre htake
    go_quiet (fail)
    go_wp2
    go_ret
    exact ⟨rfl, below_drewN hbel5 _⟩
  · by_cases hle : P.length ≤ Q.length
    · have hne := strOf_ne (a := Q.take P.length) (b := P) (fun x hx => HQb.out x (List.mem_of_mem_take hx)) HPb.out
        (fun h => hnm (Hap.out.1 (by have := List.take_prefix P.length Q; rwa [h] at this)))
      have hle' : (P.length : Int) ≤ (Q.length : Int) := by omega
      have hc3' : (P.length : Int) ≤ (c3 : Int) := by omega
      have conv3' := fun k => conv3 k hle
      have hnm' : ((n : Int) == (m : Int)) = false := by simp; omega
      clear conv3 hnm
      generalize strOf (Q.take P.length) = S at *
      generalize strOf P = R at *
      go_quiet (fail)
      go_wp2
      go_ret
      exact ⟨rfl, below_drewN hbel5 _⟩
    · have hle' : ¬ (P.length : Int) ≤ (Q.length : Int) := by omega
      have hd : decide ((P.length : Int) ≤ (Q.length : Int)) = false := by simpa using hle
      have hnm' : ((n : Int) == (m : Int)) = false := by simp; omega
      clear conv3 hnm
      go_quiet (fail)
      go_wp2
      go_ret
      exact ⟨rfl, below_drewN hbel5 _⟩
end Go.Proofs.Ythkebmnbkolhiaa
