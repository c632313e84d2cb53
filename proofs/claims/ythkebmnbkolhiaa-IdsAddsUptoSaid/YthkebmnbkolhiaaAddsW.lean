/- The walk of chandlerlaw01.IdsAdds: numbers laid one behind the other are read one behind the other. -/
import Derived.Test.YthkebmnbkolhiaaAwake
namespace Go.Proofs.Ythkebmnbkolhiaa
open Go.RowKit

def allB : List Nat → List Nat
  | [] => []
  | n :: r => putF 9 n ++ allB r
theorem allB_append (a b : List Nat) : allB (a ++ b) = allB a ++ allB b := by
  induction a with
  | nil => rfl
  | cons n r ih => simp [allB, ih]
theorem allB_len (a : List Nat) : (allB a).length ≤ 10 * a.length := by
  induction a with
  | nil => simp [allB]
  | cons n r ih => have := (putF_len 9 n).2; simp only [allB, List.length_append, List.length_cons]; omega
theorem allB_lt (a : List Nat) (h : ∀ n ∈ a, n < 2 ^ 64) : ∀ x ∈ allB a, x < 256 := by
  induction a with
  | nil => intro x hx; cases hx
  | cons n r ih =>
    intro x hx
    rcases List.mem_append.1 hx with e | e
    · exact putF_lt 9 n (Nat.lt_of_lt_of_le (h n (by simp)) (by decide)) x e
    · exact ih (fun m hm => h m (List.mem_cons_of_mem _ hm)) x e

set_option maxHeartbeats 2000000 in
theorem adds_any (A : Option Addr) (l c : Nat) (ns : List Nat) (w : World) (hl : ns.length = l) (hl2 : l ≤ 1048576) (hns : ∀ n ∈ ns, n < 2 ^ 64) (hr : Rd w w.heap.size A (u64s ns)) :
    Calls Try.prog 8 #[.slice A l c] w (TrueBelow w) := by
  have C1 := Lib.hid (awake_any w)
  have HL := Lib.hid hl
  have HN := Lib.hid hns
  have HR := Lib.hid hr
  clear hl hns hr
  go_enter Try.func8, Try.ntmps8
  go_wp2_with fail
  refine C1.out.mono ?_
  rintro e w1 ⟨rfl, hb1⟩
  have hs1 := hb1.size
  clear C1
  go_wp2_with fail
  have HR1 := Lib.hid (HR.out.below hb1 (Nat.le_refl _))
  go_loopw [4, 5] (fun v i wr => ∃ k : Nat, k ≤ l ∧ i = .int .i64 (k : Int) ∧ Hid (wr.ownsRow w1.heap.size 5 1 v (allB (ns.take k)).length (u8s (allB (ns.take k)))) ∧ Below w1.heap.size w1 wr) (fun _ i _ => l - (intOf i).toNat)
  case atStart => exact ⟨0, by omega, rfl, by have := World.ownsRow_nil w1 w1.heap.size 5 1; simpa [allB, Hid, u8s] using this, Below.refl _ _⟩
  case round =>
    obtain ⟨k, hk, rfl, HO, hb⟩ := hrel
    obtain ⟨_, A4, c4, rfl, hc4, _⟩ := own_form HO.out
    have hs := hb.size
    by_cases hlt : k < l
    · have hk1 : k < ns.length := by rw [HL.out]; exact hlt
      have hlt' : (k : Int) < (l : Int) := by omega
      obtain ⟨b, o, rfl, hB, hc⟩ := (HR1.out.below hb hs1) k (.int .u64 ((ns[k]'hk1 : Nat) : Int)) (by simp [u64s, List.getElem?_eq_getElem hk1])
      have hx := HN.out _ (List.getElem_mem hk1)
      have htk : ns.take (k + 1) = ns.take k ++ [ns[k]'hk1] := (List.take_append_getElem hk1).symm
      have hle := allB_len (ns.take k)
      have hlen : (ns.take k).length ≤ k := List.length_take_le _ _
      generalize ns[k]'hk1 = x at hc hx htk
      have hall : allB (ns.take (k + 1)) = allB (ns.take k) ++ putF 9 x := by rw [htk, allB_append]; simp [allB]
      have C := Lib.hid (put_any A4 _ c4 wr.heap.size x (allB (ns.take k)) wr rfl (by omega) (Rd.own HO.out) (Nat.le_refl _) (Nat.lt_of_lt_of_le hx (by decide)))
      have HX := Lib.hid hall
      generalize allB (ns.take k) = ds at *
      clear hx htk hall hlen
      go_wp2_with fail
      refine C.out.mono ?_
      rintro e w2 ⟨v2, rfl, hown2, hb2⟩
      clear C
      have HO2 := Lib.hid (own_base hown2 hs)
      have hb12 := hb.trans (hb2.mono hs)
      clear hown2 hb2
      go_wp2_with fail
      go_roundw
      case rel => go_light; exact ⟨k + 1, by omega, by go_num, by show World.ownsRow _ _ _ _ _ _ _; rw [HX.out]; exact HO2.out, hb12⟩
      case measure => go_light; simp only [intOf]; omega
    · have hkl : k = l := by omega
      subst hkl
      have hlt' : ¬ (k : Int) < (k : Int) := by omega
      have hle := allB_len ns
      have hd : Rd wr wr.heap.size A4 (u8s (allB ns)) := by have := Rd.own HO.out; rwa [List.take_of_length_le (by have := HL.out; omega)] at this
      have htake : ns.take k = ns := List.take_of_length_le (by have := HL.out; omega)
      have hfin := hb1.trans (hb.mono hs1)
      have HR2 := Lib.hid (HR1.out.below hb hs1)
      rw [htake] at hc4 ⊢
      have HD := Lib.hid hd
      clear HO hd htake hb HR1 hb1 hlt
      go_wp2_with fail
      go_loop [4, 6] (fun v i => ∃ (j m c' : Nat) (A' : Option Addr), j ≤ k ∧ i = .int .i64 (j : Int) ∧ v = .slice A' m c' ∧ m ≤ c' ∧ m ≤ 10485760 ∧ Hid (m = (allB (ns.drop j)).length) ∧ Hid (Rd wr wr.heap.size A' (u8s (allB (ns.drop j))))) (fun _ i => k - (intOf i).toNat)
      case atStart => exact ⟨0, _, c4, A4, by omega, rfl, rfl, hc4, by have := HL.out; omega, rfl, HD.out⟩
      case round =>
        obtain ⟨j, m, c', A', hj, rfl, rfl, hmc, hm10, hm, hrd⟩ := hrel
        by_cases hjk : j < k
        · have hj1 : j < ns.length := by rw [HL.out]; exact hjk
          have hjk' : (j : Int) < (k : Int) := by omega
          obtain ⟨b, o, rfl, hB, hc⟩ := HR2.out j (.int .u64 ((ns[j]'hj1 : Nat) : Int)) (by simp [u64s, List.getElem?_eq_getElem hj1])
          have hx := HN.out _ (List.getElem_mem hj1)
          have hdj : ns.drop j = ns[j]'hj1 :: ns.drop (j + 1) := List.drop_eq_getElem_cons hj1
          have hlt8 := allB_lt (ns.drop (j + 1)) (fun n hn => HN.out n (List.mem_of_mem_drop hn))
          generalize ns[j]'hj1 = x at hc hx hdj
          have hall : allB (ns.drop j) = putF 9 x ++ allB (ns.drop (j + 1)) := by rw [hdj]; rfl
          have hm2 := hm.out
          have hrd2 := hrd.out
          rw [hall] at hm2 hrd2
          have hp := putF_len 9 x
          have C := take_any A' m c' wr.heap.size (putF 9 x ++ allB (ns.drop (j + 1))) wr (fun y hy => (List.mem_append.1 hy).elim (putF_lt 9 x (Nat.lt_of_lt_of_le hx (by decide)) y) (hlt8 y)) hm2.symm (by omega) hrd2
          rw [take_put0 x hx] at C
          have hcut := Rd.cut (k := (putF 9 x).length) (c := c') hrd2 (by rw [u8s_len, ← hm2]; exact hmc)
          rw [show (u8s (putF 9 x ++ allB (ns.drop (j + 1)))).drop (putF 9 x).length = u8s (allB (ns.drop (j + 1))) from by rw [u8s_append, ← u8s_len (putF 9 x), List.drop_left]] at hcut
          have hmp : m - (putF 9 x).length = (allB (ns.drop (j + 1))).length := by rw [hm2, List.length_append]; omega
          have hpm : (putF 9 x).length ≤ m := by rw [hm2, List.length_append]; omega
          generalize (putF 9 x).length = p at *
          have C := Lib.hid C
          have HM := Lib.hid hmp
          have HC := Lib.hid hcut
          have h1 : ¬ ((p : Int) < 1) := by omega
          have h2 : ¬ ((m : Int) < (p : Int)) := by omega
          have h3 : (p : Int) ≤ (m : Int) := by omega
          have h4 : (m : Int) ≤ (c' : Int) := by omega
          have h5 : ((x : Int) != (x : Int)) = false := by simp
          clear hx hdj hlt8 hall hm2 hrd2 hmp hcut hm hrd
          go_wp2_with fail
          refine C.out.mono ?_
          rintro e w2 ⟨rfl, rfl⟩
          clear C
          go_wp2_with fail
          go_round
          case rel => go_light; exact ⟨j + 1, m - p, c' - p, _, by omega, by go_num, rfl, by omega, by omega, HM.out, HC.out⟩
          case measure => go_light; simp only [intOf]; omega
        · have hm0 : m = 0 := by rw [hm.out, List.drop_eq_nil_of_le (by have := HL.out; omega)]; rfl
          subst hm0
          go_wp2_with fail
          go_ret
          exact ⟨rfl, hfin⟩
end Go.Proofs.Ythkebmnbkolhiaa
