/- A text without layout at its ends: from the front first, or from the back: pure. The reference's Trim. Values in a block, and one by one: pure (what the other laws do not want). SuseBlocks at a world. SuseBlocks: the law at what came in. -/
import Derived.Test.YtdhgiammfpjniaaGreatDoorZaay
import Derived.Test.YtdhgiammfpjniaaGreatDoorZabk
import Derived.Test.YtdhgiammfpjniaaGreatDoorZabl
import Derived.Test.YtdhgiammfpjniaaGreatDoorZabo
/- A text without layout at its ends: from the front first, or from the back: pure. -/
namespace Go.Proofs.YtdhgiammfpjniaaGreatDoor
set_option linter.unusedSimpArgs false
set_option linter.unusedVariables false
open Go.RowKit Go.MapKept

theorem dropw_ap1 {p : UInt8 → Bool} (b : Bs) : ∀ {a : Bs}, a.all p = true → (a ++ b).dropWhile p = b.dropWhile p
  | [], _ => rfl
  | c :: r, h => by
    rw [List.all_cons, Bool.and_eq_true] at h
    rw [List.cons_append, List.dropWhile_cons, if_pos h.1]
    exact dropw_ap1 b h.2
theorem dropw_ap2 {p : UInt8 → Bool} (b : Bs) : ∀ {a : Bs}, a.all p = false → (a ++ b).dropWhile p = a.dropWhile p ++ b
  | [], h => by cases h
  | c :: r, h => by
    rw [List.cons_append, List.dropWhile_cons, List.dropWhile_cons]
    by_cases hc : p c = true
    · rw [if_pos hc, if_pos hc]
      rw [List.all_cons, hc, Bool.true_and] at h
      exact dropw_ap2 b h
    · rw [if_neg hc, if_neg hc]
      rfl
theorem dR_cons_all {c : UInt8} {r : Bs} (h : r.all dLay = true) : dR (c :: r) = if dLay c = true then [] else [c] := by
  unfold dR
  rw [List.reverse_cons, dropw_ap1 [c] (by rw [all_rev]; exact h), List.dropWhile_cons]
  split <;> rfl
theorem dR_cons_not {c : UInt8} {r : Bs} (h : r.all dLay = false) : dR (c :: r) = c :: dR r := by
  unfold dR
  rw [List.reverse_cons, dropw_ap2 [c] (by rw [all_rev]; exact h), List.reverse_append]
  rfl
theorem trim_comm : ∀ l : Bs, dR (dL l) = dTrim l
  | [] => rfl
  | c :: r => by
    have ih := trim_comm r
    unfold dTrim at ih ⊢
    have hL : dL (c :: r) = if dLay c = true then dL r else c :: r := List.dropWhile_cons
    by_cases hc : dLay c = true
    · rw [hL, if_pos hc, ih]
      by_cases hr : r.all dLay = true
      · rw [dR_cons_all hr, if_pos hc, dR_none hr]
      · rw [dR_cons_not (by simpa using hr)]
        show dL (dR r) = List.dropWhile dLay (c :: dR r)
        rw [List.dropWhile_cons, if_pos hc]
        rfl
    · rw [hL, if_neg hc]
      by_cases hr : r.all dLay = true
      · rw [dR_cons_all hr, if_neg hc]
        show _ = List.dropWhile dLay [c]
        rw [List.dropWhile_cons, if_neg hc]
      · rw [dR_cons_not (by simpa using hr)]
        show _ = List.dropWhile dLay (c :: dR r)
        rw [List.dropWhile_cons, if_neg hc]
/-- Lines, one more. -/
theorem linesOf_snoc (l u : Bs) : ∀ ls : List Bs, linesOf (ls ++ [l]) u = linesOf ls (l ++ 10 :: u)
  | [] => rfl
  | x :: r => by
    show x ++ 10 :: linesOf (r ++ [l]) u = x ++ 10 :: linesOf r (l ++ 10 :: u)
    rw [linesOf_snoc l u r]
theorem linesOf_app (u v : Bs) : ∀ ls : List Bs, linesOf ls (u ++ v) = linesOf ls u ++ v
  | [] => rfl
  | x :: r => by
    show x ++ 10 :: linesOf r (u ++ v) = (x ++ 10 :: linesOf r u) ++ v
    rw [linesOf_app u v r]
    simp
theorem linesOf_one (ls : List Bs) (l : Bs) : linesOf (ls ++ [l]) [] = linesOf ls [] ++ (l ++ [10]) := by
  rw [linesOf_snoc, show (l ++ 10 :: [] : Bs) = [] ++ (l ++ [10]) from rfl, linesOf_app, List.nil_append]
/-- The two texts that the law makes, so far. -/
def oneG (t : Bs) (vs : List Bs) : Bs := linesOf (headL :: vs.map (lineV t)) []
def twoG (t : Bs) (vs : List Bs) : Bs := linesOf (headL :: lineB t :: vs) []
theorem oneG_snoc (t : Bs) (vs : List Bs) (v : Bs) : oneG t (vs ++ [v]) = oneG t vs ++ (lineV t v ++ [10]) := by
  unfold oneG
  rw [List.map_append, List.map_cons, List.map_nil, ← List.cons_append, linesOf_one]
theorem twoG_snoc (t : Bs) (vs : List Bs) (v : Bs) : twoG t (vs ++ [v]) = twoG t vs ++ (v ++ [10]) := by
  unfold twoG
  rw [← List.cons_append, ← List.cons_append, linesOf_one]
theorem twoB_is (t : Bs) (vs : List Bs) : twoB t vs = twoG t vs ++ (lineE t ++ [10]) := by
  unfold twoB twoG
  rw [linesOf_one]
theorem oneB_is (t : Bs) (vs : List Bs) : oneB t vs = oneG t vs := rfl
theorem linesOf_len (m : Nat) (u : Bs) : ∀ ls : List Bs, (∀ l ∈ ls, l.length ≤ m) → (linesOf ls u).length ≤ ls.length * (m + 1) + u.length
  | [], _ => by show u.length ≤ _; omega
  | l :: r, h => by
    show (l ++ 10 :: linesOf r u).length ≤ (r.length + 1) * (m + 1) + u.length
    have h1 := h l (by simp)
    have h2 := linesOf_len m u r (fun x hx => h x (List.mem_cons_of_mem _ hx))
    rw [List.length_append, List.length_cons, Nat.add_mul]
    generalize r.length * (m + 1) = k at *
    omega
theorem oneG_len (t : Bs) (ht : t.length = 3) (vs : List Bs) (h : ∀ v ∈ vs, v.length ≤ 500) : (oneG t vs).length ≤ (vs.length + 1) * 507 := by
  have := linesOf_len 506 [] (headL :: vs.map (lineV t)) (fun l hl => by
    rcases List.mem_cons.1 hl with rfl | hl
    · decide
    · obtain ⟨v, hv, rfl⟩ := List.mem_map.1 hl
      have h2 := h v hv
      have h3 : (lineV t v).length = t.length + v.length + 3 := by unfold lineV; simp; omega
      omega)
  simpa [oneG] using this
theorem twoG_len (t : Bs) (ht : t.length = 3) (vs : List Bs) (h : ∀ v ∈ vs, v.length ≤ 500) : (twoG t vs).length ≤ (vs.length + 2) * 501 := by
  have := linesOf_len 500 [] (headL :: lineB t :: vs) (fun l hl => by
    rcases List.mem_cons.1 hl with rfl | hl
    · decide
    · rcases List.mem_cons.1 hl with rfl | hl
      · unfold lineB; simp; omega
      · exact h l hl)
  simpa [twoG] using this
end Go.Proofs.YtdhgiammfpjniaaGreatDoor

/- The reference's Trim. -/
namespace Go.Proofs.YtdhgiammfpjniaaGreatDoor
set_option linter.unusedSimpArgs false
set_option linter.unusedVariables false
open Go.RowKit Go.MapKept

theorem int_byte (c k : UInt8) : ((c.toNat : Int) == (k.toNat : Int)) = decide (c = k) := by
  by_cases h : c = k
  · subst h; simp
  · have : c.toNat ≠ k.toNat := fun e => h (UInt8.toNat_inj.1 e)
    simp [h]
    omega
set_option maxHeartbeats 8000000 in
set_option maxRecDepth 1000000 in
theorem refTrim_any (l : Bs) (hl : l.length ≤ 9223372036854775807) (w : World) : Calls Tryz.prog 20 #[.string (mkS l)] w fun e w' => e = .returned (.string (mkS (dTrim l))) ∧ w = w' := by
  go_enter Tryz.func20, Tryz.ntmps20
  go_wp2_with fail
  go_loop [0] (fun v => ∃ m : Bs, m.length ≤ l.length ∧ v = .string (mkS m) ∧ Hid (dL m = dL l)) (fun v => match v with | .string s => s.size | _ => 0)
  case atStart => exact ⟨l, Nat.le_refl _, rfl, rfl⟩
  case round =>
    obtain ⟨m, hm, rfl, hall⟩ := hrel
    have hnl : m.length ≤ 9223372036854775807 := by omega
    by_cases hnil : m = []
    · have HM : Hid (dL l = m) := by show dL l = m; rw [← hall.out, hnil]; rfl
      have h0 : ((mkS m).size : Int) = 0 := by rw [hnil]; rfl
      clear hall hm hl
      generalize hSS : mkS m = S at *
      have HSM := Lib.hid hSS
      clear hSS hnil
      go_wp2_with fail
      have HTC : Hid (dR m = dTrim l) := by show dR m = _; rw [← trim_comm, HM.out]
      have hml0 : m.length = m.length := rfl
      go_loop [0] (fun v => ∃ k : Nat, k ≤ m.length ∧ v = .string (mkS (m.take k)) ∧ Hid ((m.drop k).all dLay = true)) (fun v => match v with | .string s => s.size | _ => 0)
      case atStart => exact ⟨m.length, Nat.le_refl _, by rw [List.take_length, HSM.out], by show (m.drop m.length).all dLay = true; rw [List.drop_length]; rfl⟩
      case round =>
        obtain ⟨k, hk, rfl, hall⟩ := hrel
        have hz : (mkS (m.take k)).size = k := by rw [mkS_size, List.length_take]; omega
        have hkb : k ≤ 9223372036854775807 := by omega
        clear hml0 hnl
        cases k with
        | zero =>
          have HV : Hid (m.all dLay = true) := hall.out
          have h0 : ((mkS (m.take 0)).size : Int) = 0 := by rw [hz]; rfl
          go_wp2_with fail
          go_ret
          exact ⟨by rw [← HTC.out, dR_none HV.out]; rfl, rfl⟩
        | succ j =>
          have hj : j < m.length := by omega
          have hjz : j < (mkS (m.take (j + 1))).size := by omega
          obtain ⟨c, hc⟩ : ∃ c, c = m[j] := ⟨_, rfl⟩
          have hget : (mkS (m.take (j + 1)))[j]'hjz = c := by
            have h1 := byte_at hjz
            rw [mkS_list, List.getElem?_take, if_pos (by omega), List.getElem?_eq_getElem hj] at h1
            injection h1 with h1
            rw [hc]; exact h1.symm
          have hext : (mkS (m.take (j + 1))).extract 0 j = mkS (m.take j) := by rw [mkS_take, List.take_take, Nat.min_eq_left (by omega)]
          have hdr : m.drop j = c :: m.drop (j + 1) := by rw [hc]; exact List.drop_eq_getElem_cons hj
          have HN1 : Hid (dLay c = true → (m.drop j).all dLay = true) := fun h => by have := hall.out; rw [hdr, List.all_cons, h, this]; rfl
          have HN2 : Hid (dLay c = false → dR m = m.take (j + 1)) := fun h => dR_end hall.out (by rw [List.getElem?_eq_getElem hj, hc]) h
          have HZJ : Hid ((mkS (m.take j)).size < (mkS (m.take (j + 1))).size) := by show (mkS _).size < _; rw [hz, mkS_size, List.length_take]; omega
          have hs1 : ((mkS (m.take (j + 1))).size : Int) - 1 = (j : Int) := by rw [hz]; omega
          have hs0 : (0 : Int) < ((mkS (m.take (j + 1))).size : Int) := by rw [hz]; omega
          have hj0 : (0 : Int) ≤ (j : Int) := by omega
          have hz40 : (mkS (m.take (j + 1))).size ≤ 9223372036854775807 := by rw [hz]; exact hkb
          have hji : (j : Int) < ((mkS (m.take (j + 1))).size : Int) := by rw [hz]; omega
          have hji2 : (j : Int) ≤ ((mkS (m.take (j + 1))).size : Int) := by rw [hz]; omega
          have u32 : ((((mkS (m.take (j + 1)))[j]'hjz).toNat : Int) == 32) = decide (c = 32) := by rw [hget]; exact int_byte c 32
          have u9 : ((((mkS (m.take (j + 1)))[j]'hjz).toNat : Int) == 9) = decide (c = 9) := by rw [hget]; exact int_byte c 9
          clear hdr hc hz hall hj hget
          generalize hSS : mkS (m.take (j + 1)) = S at *
          have HSS := Lib.hid hSS
          clear hSS
          generalize hR : mkS (m.take j) = R at *
          have HR := Lib.hid hR
          clear hR
          by_cases c32 : c = 32
          · have t32 : ((S[j].toNat : Int) == 32) = true := by rw [u32, c32]; rfl
            have HN := Lib.hid (HN1.out (by rw [c32]; rfl))
            clear u32 u9 HN1 HN2 c32
            go_wp2_with fail
            go_round
            case rel => exact ⟨j, by omega, by rw [HR.out], HN⟩
            case measure => exact HZJ.out
          have t32 : ((S[j].toNat : Int) == 32) = false := by rw [u32]; simp [c32]
          by_cases c9 : c = 9
          · have t9 : ((S[j].toNat : Int) == 9) = true := by rw [u9, c9]; rfl
            have HN := Lib.hid (HN1.out (by rw [c9]; rfl))
            clear u32 u9 HN1 HN2 c32 c9
            go_wp2_with fail
            go_round
            case rel => exact ⟨j, by omega, by rw [HR.out], HN⟩
            case measure => exact HZJ.out
          · have t9 : ((S[j].toNat : Int) == 9) = false := by rw [u9]; simp [c9]
            have HN := Lib.hid (HN2.out (by unfold dLay; simp [c32, c9]))
            clear u32 u9 HN1 HN2 c32 c9
            go_wp2_with fail
            go_ret
            exact ⟨(by first | (rw [← HTC.out, HN.out, HSS.out]; done) | (rw [← HTC.out, HN.out, HSS.out]; rfl)), rfl⟩
    · obtain ⟨c, r, hcr⟩ : ∃ c r, m = c :: r := by
        cases m with
        | nil => exact absurd rfl hnil
        | cons c r => exact ⟨c, r, rfl⟩
      have hjz : 0 < (mkS m).size := by rw [hcr, mkS_size]; simp
      have hget : (mkS m)[0]'hjz = c := by subst hcr; rfl
      have hext : (mkS m).extract 1 (mkS m).size = mkS r := by rw [hcr, mkS_drop]; rfl
      have hw0 : (0 : Int) < ((mkS m).size : Int) := by omega
      have hs0 : (0 : Int) < ((mkS m).size : Int) := by omega
      have hs1 : (1 : Int) ≤ ((mkS m).size : Int) := by omega
      have hz40 : (mkS m).size ≤ 9223372036854775807 := by rw [mkS_size]; omega
      have HZJ : Hid ((mkS r).size < (mkS m).size) := by show (mkS r).size < _; rw [hcr, mkS_size, mkS_size]; simp
      have HRN : Hid (dLay c = true → dL r = dL l) := fun hc => by
        rw [← hall.out, hcr]
        show _ = (c :: r).dropWhile dLay
        rw [List.dropWhile_cons, if_pos hc]
        rfl
      have HRF : Hid (dLay c = false → dL l = m) := fun hc => by
        rw [← hall.out, hcr]
        show (c :: r).dropWhile dLay = _
        rw [List.dropWhile_cons, if_neg (by rw [hc]; simp)]
      have hrl : r.length ≤ l.length := by rw [hcr] at hm; simp at hm; omega
      have u32 : ((((mkS m)[0]'hjz).toNat : Int) == 32) = decide (c = 32) := by rw [hget]; exact int_byte c 32
      have u9 : ((((mkS m)[0]'hjz).toNat : Int) == 9) = decide (c = 9) := by rw [hget]; exact int_byte c 9
      clear hall hm hcr hnil hget hl
      generalize hSS : mkS m = S at *
      generalize hRR : mkS r = R at *
      have HSM := Lib.hid hSS
      have HR := Lib.hid hRR
      clear hSS hRR
      by_cases c32 : c = 32
      · have t32 : ((S[0].toNat : Int) == 32) = true := by rw [u32, c32]; rfl
        have HN := Lib.hid (HRN.out (by rw [c32]; rfl))
        clear u32 u9 HRN HRF c32
        go_wp2_with fail
        go_round
        case rel => exact ⟨r, hrl, by rw [HR.out], HN⟩
        case measure => exact HZJ.out
      have t32 : ((S[0].toNat : Int) == 32) = false := by rw [u32]; simp [c32]
      by_cases c9 : c = 9
      · have t9 : ((S[0].toNat : Int) == 9) = true := by rw [u9, c9]; rfl
        have HN := Lib.hid (HRN.out (by rw [c9]; rfl))
        clear u32 u9 HRN HRF c32 c9
        go_wp2_with fail
        go_round
        case rel => exact ⟨r, hrl, by rw [HR.out], HN⟩
        case measure => exact HZJ.out
      have t9 : ((S[0].toNat : Int) == 9) = false := by rw [u9]; simp [c9]
      have HM : Hid (dL l = m) := HRF.out (by unfold dLay; simp [c32, c9])
      clear u32 u9 HRN HRF c32 c9 hrl hext HZJ HR
      go_wp2_with fail
      have HTC : Hid (dR m = dTrim l) := by show dR m = _; rw [← trim_comm, HM.out]
      have hml0 : m.length = m.length := rfl
      go_loop [0] (fun v => ∃ k : Nat, k ≤ m.length ∧ v = .string (mkS (m.take k)) ∧ Hid ((m.drop k).all dLay = true)) (fun v => match v with | .string s => s.size | _ => 0)
      case atStart => exact ⟨m.length, Nat.le_refl _, by rw [List.take_length, HSM.out], by show (m.drop m.length).all dLay = true; rw [List.drop_length]; rfl⟩
      case round =>
        obtain ⟨k, hk, rfl, hall⟩ := hrel
        have hz : (mkS (m.take k)).size = k := by rw [mkS_size, List.length_take]; omega
        have hkb : k ≤ 9223372036854775807 := by omega
        clear hml0 hnl
        cases k with
        | zero =>
          have HV : Hid (m.all dLay = true) := hall.out
          have h0 : ((mkS (m.take 0)).size : Int) = 0 := by rw [hz]; rfl
          go_wp2_with fail
          go_ret
          exact ⟨by rw [← HTC.out, dR_none HV.out]; rfl, rfl⟩
        | succ j =>
          have hj : j < m.length := by omega
          have hjz : j < (mkS (m.take (j + 1))).size := by omega
          obtain ⟨c, hc⟩ : ∃ c, c = m[j] := ⟨_, rfl⟩
          have hget : (mkS (m.take (j + 1)))[j]'hjz = c := by
            have h1 := byte_at hjz
            rw [mkS_list, List.getElem?_take, if_pos (by omega), List.getElem?_eq_getElem hj] at h1
            injection h1 with h1
            rw [hc]; exact h1.symm
          have hext : (mkS (m.take (j + 1))).extract 0 j = mkS (m.take j) := by rw [mkS_take, List.take_take, Nat.min_eq_left (by omega)]
          have hdr : m.drop j = c :: m.drop (j + 1) := by rw [hc]; exact List.drop_eq_getElem_cons hj
          have HN1 : Hid (dLay c = true → (m.drop j).all dLay = true) := fun h => by have := hall.out; rw [hdr, List.all_cons, h, this]; rfl
          have HN2 : Hid (dLay c = false → dR m = m.take (j + 1)) := fun h => dR_end hall.out (by rw [List.getElem?_eq_getElem hj, hc]) h
          have HZJ : Hid ((mkS (m.take j)).size < (mkS (m.take (j + 1))).size) := by show (mkS _).size < _; rw [hz, mkS_size, List.length_take]; omega
          have hs1 : ((mkS (m.take (j + 1))).size : Int) - 1 = (j : Int) := by rw [hz]; omega
          have hs0 : (0 : Int) < ((mkS (m.take (j + 1))).size : Int) := by rw [hz]; omega
          have hj0 : (0 : Int) ≤ (j : Int) := by omega
          have hz40 : (mkS (m.take (j + 1))).size ≤ 9223372036854775807 := by rw [hz]; exact hkb
          have hji : (j : Int) < ((mkS (m.take (j + 1))).size : Int) := by rw [hz]; omega
          have hji2 : (j : Int) ≤ ((mkS (m.take (j + 1))).size : Int) := by rw [hz]; omega
          have u32 : ((((mkS (m.take (j + 1)))[j]'hjz).toNat : Int) == 32) = decide (c = 32) := by rw [hget]; exact int_byte c 32
          have u9 : ((((mkS (m.take (j + 1)))[j]'hjz).toNat : Int) == 9) = decide (c = 9) := by rw [hget]; exact int_byte c 9
          clear hdr hc hz hall hj hget
          generalize hSS : mkS (m.take (j + 1)) = S at *
          have HSS := Lib.hid hSS
          clear hSS
          generalize hR : mkS (m.take j) = R at *
          have HR := Lib.hid hR
          clear hR
          by_cases c32 : c = 32
          · have t32 : ((S[j].toNat : Int) == 32) = true := by rw [u32, c32]; rfl
            have HN := Lib.hid (HN1.out (by rw [c32]; rfl))
            clear u32 u9 HN1 HN2 c32
            go_wp2_with fail
            go_round
            case rel => exact ⟨j, by omega, by rw [HR.out], HN⟩
            case measure => exact HZJ.out
          have t32 : ((S[j].toNat : Int) == 32) = false := by rw [u32]; simp [c32]
          by_cases c9 : c = 9
          · have t9 : ((S[j].toNat : Int) == 9) = true := by rw [u9, c9]; rfl
            have HN := Lib.hid (HN1.out (by rw [c9]; rfl))
            clear u32 u9 HN1 HN2 c32 c9
            go_wp2_with fail
            go_round
            case rel => exact ⟨j, by omega, by rw [HR.out], HN⟩
            case measure => exact HZJ.out
          · have t9 : ((S[j].toNat : Int) == 9) = false := by rw [u9]; simp [c9]
            have HN := Lib.hid (HN2.out (by unfold dLay; simp [c32, c9]))
            clear u32 u9 HN1 HN2 c32 c9
            go_wp2_with fail
            go_ret
            exact ⟨(by first | (rw [← HTC.out, HN.out, HSS.out]; done) | (rw [← HTC.out, HN.out, HSS.out]; rfl)), rfl⟩
end Go.Proofs.YtdhgiammfpjniaaGreatDoor

/- Values in a block, and one by one: pure (what the other laws do not want). -/
namespace Go.Proofs.YtdhgiammfpjniaaGreatDoor
set_option linter.unusedSimpArgs false
set_option linter.unusedVariables false
open Go.RowKit Go.MapKept

theorem linesX_nil : linesX [] = [] := rfl
theorem dropw_nil {p : UInt8 → Bool} : ∀ {l : Bs}, l.dropWhile p = [] → l.all p = true
  | [], _ => rfl
  | c :: r, h => by
    rw [List.dropWhile_cons] at h
    by_cases hc : p c = true
    · rw [if_pos hc] at h
      rw [List.all_cons, hc, Bool.true_and]
      exact dropw_nil h
    · rw [if_neg hc] at h
      cases h
theorem takew_all {p : UInt8 → Bool} : ∀ {l : Bs}, (∀ c ∈ l, p c = true) → l.takeWhile p = l
  | [], _ => rfl
  | c :: r, h => by
    rw [List.takeWhile_cons, if_pos (h c (by simp)), takew_all (fun d hd => h d (List.mem_cons_of_mem _ hd))]
theorem isLay_iff (l : Bs) : isLay l = true ↔ l.all dLay = true := by
  have h0 : isLay l = true ↔ dTrim l = [] := by unfold isLay; simp
  rw [h0]
  constructor
  · intro h
    have h1 : (dR l).all dLay = true := dropw_nil h
    have h2 : (l.reverse.dropWhile dLay).all dLay = true := by
      unfold dR at h1
      rwa [all_rev] at h1
    have h3 : l.reverse.all dLay = true := by
      rw [← List.takeWhile_append_dropWhile (p := dLay) (l := l.reverse), List.all_append, h2, Bool.and_true]
      exact List.all_takeWhile
    rwa [all_rev] at h3
  · intro h
    unfold dTrim
    rw [dR_none h]
    rfl
theorem dropw_first {p : UInt8 → Bool} : ∀ {l : Bs} {c : UInt8} {r : Bs}, l.dropWhile p = c :: r → p c = false
  | [], _, _, h => by cases h
  | x :: l, c, r, h => by
    rw [List.dropWhile_cons] at h
    by_cases hx : p x = true
    · rw [if_pos hx] at h
      exact dropw_first h
    · rw [if_neg hx] at h
      injection h with h
      rw [← h]
      simpa using hx
theorem isLay_first {c : UInt8} {r : Bs} (h : dLay c = false) : isLay (c :: r) = false := by
  cases hi : isLay (c :: r) with
  | false => rfl
  | true =>
    have := (isLay_iff _).1 hi
    rw [List.all_cons, h] at this
    cases this
theorem trim_first {x : Bs} {c : UInt8} {r : Bs} (h : dTrim x = c :: r) : dLay c = false := dropw_first h
theorem cutc_cons (k c : UInt8) (r : Bs) : Lib.cut (c :: r) [k] = if c = k then ([], r, true) else (c :: (Lib.cut r [k]).1, (Lib.cut r [k]).2.1, (Lib.cut r [k]).2.2) := by
  have hi : Lib.index (c :: r) [k] = if c = k then 0 else if Lib.index r [k] = -1 then -1 else Lib.index r [k] + 1 := by
    show (if ([k] : Bs).isPrefixOf (c :: r) = true then (0 : Int) else if (Lib.index r [k] == -1) = true then -1 else Lib.index r [k] + 1) = _
    by_cases h : c = k
    · subst h
      rw [if_pos rfl, if_pos (by simp [List.isPrefixOf])]
    · rw [if_neg h]
      have h2 : ([k] : Bs).isPrefixOf (c :: r) = false := by
        show (k == c && _) = false
        have : (k == c) = false := beq_eq_false_iff_ne.2 (fun e => h e.symm)
        rw [this]
        rfl
      rw [h2]
      simp
  by_cases h : c = k
  · subst h
    rw [if_pos rfl] at hi
    rw [if_pos rfl]
    unfold Lib.cut
    rw [hi]
    rfl
  · rw [if_neg h] at hi ⊢
    have hg := Lib.index_ge r [k]
    unfold Lib.cut
    by_cases h1 : Lib.index r [k] = -1
    · rw [if_pos h1] at hi
      rw [hi, h1]
      rfl
    · rw [if_neg h1] at hi
      have h0 : 0 ≤ Lib.index r [k] := by omega
      rw [hi, if_pos h0, if_pos (by omega)]
      obtain ⟨m, hm⟩ : ∃ m : Nat, Lib.index r [k] = (m : Int) := ⟨(Lib.index r [k]).toNat, by omega⟩
      rw [hm]
      have e1 : ((m : Int) + 1).toNat = m + 1 := by omega
      have e2 : ((m : Int)).toNat = m := by omega
      rw [e1, e2]
      simp
theorem cut_at_ (k : UInt8) (u : Bs) : ∀ t : Bs, (∀ c ∈ t, c ≠ k) → Lib.cut (t ++ k :: u) [k] = (t, u, true)
  | [], _ => by rw [List.nil_append, cutc_cons, if_pos rfl]
  | c :: r, h => by
    rw [List.cons_append, cutc_cons, if_neg (h c (by simp)), cut_at_ k u r (fun d hd => h d (List.mem_cons_of_mem _ hd))]
theorem linesG_line (u : Bs) : ∀ (l cur : Bs), (∀ c ∈ l, c ≠ 10) → linesG (l ++ 10 :: u) cur = (cur ++ l) :: linesX u
  | [], cur, _ => by
    show (if (10 : UInt8) = 10 then cur :: linesG u [] else _) = _
    rw [if_pos rfl, List.append_nil]
    rfl
  | c :: r, cur, h => by
    show (if c = 10 then cur :: linesG (r ++ 10 :: u) [] else linesG (r ++ 10 :: u) (cur ++ [c])) = _
    rw [if_neg (h c (by simp)), linesG_line u r (cur ++ [c]) (fun d hd => h d (List.mem_cons_of_mem _ hd)), List.append_assoc]
    rfl
theorem linesX_line {l : Bs} (u : Bs) (h : ∀ c ∈ l, c ≠ 10) : linesX (l ++ 10 :: u) = l :: linesX u := by
  unfold linesX
  rw [linesG_line u l [] h, List.nil_append]
  rfl
/-- A tag of three bytes as the law has them. -/
def TagG (t : Bs) : Prop := t ≠ [] ∧ ∀ c ∈ t, 65 ≤ c.toNat ∧ c.toNat ≤ 122
/-- A value. -/
def ValG (v : Bs) : Prop := (∃ c r, v = c :: r ∧ dLay c = false ∧ c ≠ 45) ∧ ∀ c ∈ v, c ≠ 10
theorem tag_ne {t : Bs} (h : TagG t) {k : UInt8} (hk : k.toNat < 65) : ∀ c ∈ t, c ≠ k := fun c hc e => by
  have := (h.2 c hc).1
  rw [e] at this
  omega
theorem tag_plain {t : Bs} (h : TagG t) : plainN dLayS t = t.length := by
  unfold plainN
  rw [takew_all]
  intro c hc
  rw [dLay_has]
  unfold dLay
  have h1 := tag_ne h (k := 32) (by decide) c hc
  have h2 := tag_ne h (k := 9) (by decide) c hc
  simp [h1, h2]
theorem tag_ok {t : Bs} (h : TagG t) (u : Bs) : tagOk (Lib.cut (t ++ 58 :: u) [58]) = true := by
  rw [cut_at_ 58 u t (tag_ne h (by decide))]
  unfold tagOk
  have h1 : t.isEmpty = false := by simpa using h.1
  rw [h1, tag_plain h]
  simp
theorem lineS_val {t : Bs} (h : TagG t) (hp : t ≠ pkgN) (v : Bs) : lineS (lineV t v) false = .one t v := by
  have e : lineV t v = 61 :: (t ++ 58 :: 32 :: v) := rfl
  rw [e]
  unfold lineS
  rw [if_neg (by rw [isLay_first (by decide)]; simp)]
  have hps : partsS (61 :: (t ++ 58 :: 32 :: v)) = (61, t, v, true) := by
    unfold partsS
    have e1 : (61 :: (t ++ 58 :: 32 :: v)).headD 0 = 61 := rfl
    have e2 : (61 :: (t ++ 58 :: 32 :: v)).drop 1 = t ++ 58 :: 32 :: v := rfl
    dsimp only
    rw [if_pos e1, e2, tag_ok h, cut_at_ 58 (32 :: v) t (tag_ne h (by decide))]
    rfl
  rw [hps]
  unfold lineP
  rw [if_neg (by simp), if_neg (fun e => hp e.2), if_neg (by simp), if_neg (by simp), if_neg (by simp)]
theorem lineS_blk {t : Bs} (h : TagG t) : lineS (lineB t) false = .blk t := by
  have e : lineB t = 43 :: (t ++ 58 :: []) := rfl
  rw [e]
  unfold lineS
  rw [if_neg (by rw [isLay_first (by decide)]; simp)]
  have hps : partsS (43 :: (t ++ 58 :: [])) = (43, t, [], true) := by
    unfold partsS
    have e1 : (43 :: (t ++ 58 :: [])).headD 0 = 43 := rfl
    have e2 : (43 :: (t ++ 58 :: [])).drop 1 = t ++ 58 :: [] := rfl
    dsimp only
    rw [e1, if_neg (by decide), if_pos rfl, e2, tag_ok h, cut_at_ 58 [] t (tag_ne h (by decide))]
    rfl
  rw [hps]
  unfold lineP
  rw [if_neg (by simp), if_neg (by simp), if_neg (by simp), if_neg (by simp), if_pos rfl]
theorem endB_val {v : Bs} (h : ValG v) (t : Bs) : endB t v = false ∧ isLay v = false := by
  obtain ⟨⟨c, r, rfl, h1, h2⟩, _⟩ := h
  refine ⟨?_, isLay_first h1⟩
  unfold endB Lib.hasPrefix
  have : (45 :: t ++ [58] : Bs).isPrefixOf (c :: r) = false := by
    show ((45 : UInt8) == c && _) = false
    have : ((45 : UInt8) == c) = false := beq_eq_false_iff_ne.2 (fun e => h2 e.symm)
    rw [this]
    rfl
  rw [this]
  rfl
theorem endB_end (t : Bs) : endB t (lineE t) = true := by
  unfold endB Lib.hasPrefix lineE
  rw [Bool.and_eq_true]
  refine ⟨by rw [List.isPrefixOf_iff_prefix]; exact List.prefix_refl _, ?_⟩
  have : (45 :: t ++ [58] : Bs).drop (t.length + 2) = [] := List.drop_eq_nil_of_le (by simp)
  rw [this]
  rfl
theorem blockS_vals (t : Bs) : ∀ (vs a : List Bs), (∀ v ∈ vs, ValG v) → blockS t (vs ++ [lineE t]) a = some (a ++ vs, [])
  | [], a, _ => by
    show (if endB t (lineE t) = true then some (a, []) else _) = _
    rw [if_pos (endB_end t), List.append_nil]
  | v :: r, a, h => by
    obtain ⟨h1, h2⟩ := endB_val (h v (by simp)) t
    show (if endB t v = true then _ else if isLay v = true then _ else blockS t (r ++ [lineE t]) (a ++ [v])) = _
    rw [if_neg (by rw [h1]; simp), if_neg (by rw [h2]; simp), blockS_vals t r (a ++ [v]) (fun x hx => h x (List.mem_cons_of_mem _ hx)), List.append_assoc]
    rfl
theorem lastT_one (t : Bs) (vs : List Bs) (S : Sk) : lastT t vs [S] = match putT t vs S with
    | some S' => some [S']
    | none => none := rfl
theorem reads_vals {t : Bs} (h : TagG t) (hp : t ≠ pkgN) : ∀ (vs : List Bs) (n m : Nat) (S : Sk), vs.length < n → 0 < m → readS n (vs.map (lineV t)) [S] = thenS (lastT t vs [S]) (readS m [])
  | [], n, m, S, hn, hm => by
    obtain ⟨n, rfl⟩ : ∃ k, n = k + 1 := ⟨n - 1, by omega⟩
    obtain ⟨m, rfl⟩ : ∃ k, m = k + 1 := ⟨m - 1, by omega⟩
    rfl
  | v :: r, n, m, S, hn, hm => by
    obtain ⟨n, rfl⟩ : ∃ k, n = k + 1 := ⟨n - 1, by omega⟩
    rw [List.map_cons, readS_cons]
    have e : lineS (lineV t v) ([S] : List Sk).isEmpty = .one t v := lineS_val h hp v
    rw [e]
    dsimp only
    have e2 : lastT t [v] [S] = (actM (mgOf t) S v).map fun x => [x] := by
      rw [lastT_one]
      unfold putT
      show (match (match actM (mgOf t) S v with | some S' => some S' | none => none) with | some S' => some [S'] | none => none) = _
      cases actM (mgOf t) S v <;> rfl
    have e3 : lastT t (v :: r) [S] = match actM (mgOf t) S v with
        | some S' => lastT t r [S']
        | none => none := by
      rw [lastT_one]
      unfold putT
      show (match (match actM (mgOf t) S v with | some S' => putM (mgOf t) r S' | none => none) with | some S' => some [S'] | none => none) = _
      cases actM (mgOf t) S v <;> rfl
    rw [e2, e3]
    cases ha : actM (mgOf t) S v with
    | none => rfl
    | some S' =>
      simp at hn
      exact reads_vals h hp r n m S' hn hm
theorem lines_all (u : Bs) : ∀ ls : List Bs, (∀ l ∈ ls, ∀ c ∈ l, c ≠ 10) → linesX (linesOf ls u) = ls ++ linesX u
  | [], _ => rfl
  | l :: r, h => by
    show linesX (l ++ 10 :: linesOf r u) = _
    rw [linesX_line _ (h l (by simp)), lines_all u r (fun x hx => h x (List.mem_cons_of_mem _ hx))]
    rfl
theorem head_pack : ∃ v, lineS headL true = .pack v := ⟨[97, 32, 49, 32, 49, 32, 110, 111, 97, 114, 99, 104], by kernel_rfl⟩
/-- The same packages, or the same error. -/
theorem blocks_same {t : Bs} (h : TagG t) (hp : t ≠ pkgN) {vs : List Bs} (hv : ∀ v ∈ vs, ValG v) (h1 : (oneB t vs).length ≤ 40000) (h2 : (twoB t vs).length ≤ 40000) : parseS (oneB t vs) = parseS (twoB t vs) := by
  have ht10 := tag_ne h (k := 10) (by decide)
  have hh : ∀ c ∈ headL, c ≠ 10 := by decide
  have l1 : linesX (oneB t vs) = headL :: vs.map (lineV t) := by
    unfold oneB
    rw [lines_all, linesX_nil, List.append_nil]
    intro l hl
    rcases List.mem_cons.1 hl with rfl | hl
    · exact hh
    · obtain ⟨v, hvm, rfl⟩ := List.mem_map.1 hl
      intro c hc
      unfold lineV at hc
      simp only [List.cons_append, List.mem_cons, List.mem_append] at hc
      rcases hc with rfl | hc | rfl | rfl | hc
      · decide
      · exact ht10 c hc
      · decide
      · decide
      · exact (hv v hvm).2 c hc
  have l2 : linesX (twoB t vs) = headL :: lineB t :: (vs ++ [lineE t]) := by
    unfold twoB
    rw [lines_all, linesX_nil, List.append_nil]
    · rfl
    intro l hl
    simp only [List.cons_append, List.mem_cons, List.mem_append, List.not_mem_nil, or_false] at hl
    rcases hl with rfl | rfl | hl | rfl
    · exact hh
    · intro c hc
      unfold lineB at hc
      simp only [List.cons_append, List.mem_cons, List.mem_append, List.not_mem_nil, or_false] at hc
      rcases hc with rfl | hc | rfl
      · decide
      · exact ht10 c hc
      · decide
    · exact (hv l hl).2
    · intro c hc
      unfold lineE at hc
      simp only [List.cons_append, List.mem_cons, List.mem_append, List.not_mem_nil, or_false] at hc
      rcases hc with rfl | hc | rfl
      · decide
      · exact ht10 c hc
      · decide
  unfold parseS
  rw [if_pos h1, if_pos h2, l1, l2, readS_cons, readS_cons]
  obtain ⟨v0, hv0⟩ := head_pack
  have hv0 : lineS headL ([] : List Sk).isEmpty = .pack v0 := hv0
  rw [hv0]
  dsimp only
  cases hb : beginS [] v0 with
  | error e => rfl
  | ok a =>
    obtain ⟨_, _, S, _, rfl⟩ := beginS_ok hb
    dsimp only
    rw [List.nil_append, reads_vals h hp vs _ 1 S (by simp) (by omega)]
    rw [List.length_cons, readS_cons]
    have e : lineS (lineB t) ([S] : List Sk).isEmpty = .blk t := lineS_blk h
    rw [e]
    dsimp only
    rw [blockS_vals t vs [] hv]
    dsimp only
    rw [List.nil_append]
    cases lastT t vs [S] with
    | none => rfl
    | some a =>
      exact readS_fuel 1 _ [] a (by simp) (by simp)
end Go.Proofs.YtdhgiammfpjniaaGreatDoor

/- SuseBlocks at a world. -/
namespace Go.Proofs.YtdhgiammfpjniaaGreatDoor
set_option linter.unusedSimpArgs false
set_option linter.unusedVariables false
open Go.RowKit Go.MapKept

theorem cat_line (o t v : Bs) : mkS o ++ ⟨#[61]⟩ ++ mkS t ++ ⟨#[58, 32]⟩ ++ mkS v ++ ⟨#[10]⟩ = mkS (o ++ (lineV t v ++ [10])) := s_ext (by simp [mkS, lineV])
theorem cat_val (o v : Bs) : mkS o ++ mkS v ++ ⟨#[10]⟩ = mkS (o ++ (v ++ [10])) := s_ext (by simp [mkS])
theorem cat_end (o t : Bs) : mkS o ++ ⟨#[45]⟩ ++ mkS t ++ ⟨#[58, 10]⟩ = mkS (o ++ (lineE t ++ [10])) := s_ext (by simp [mkS, lineE])
theorem cat_head (t : Bs) : (⟨#[61, 80, 107, 103, 58, 32, 97, 32, 49, 32, 49, 32, 110, 111, 97, 114, 99, 104, 10]⟩ : ByteArray) ++ ⟨#[43]⟩ ++ mkS t ++ ⟨#[58, 10]⟩ = mkS (twoG t []) := s_ext (by simp [mkS, twoG, linesOf, headL, lineB])
theorem PsS.pksL {w0 w : World} {A : Option Addr} {n c : Nat} {xs : List Sk5} (h : PsS w0 w (.slice A n c) xs) {l : List Sk} (hl : xs.map Sk5.S = l) (hw : ∀ S ∈ l, chkS S = 0) : Ev.PksAt w (l.map pkgS) A := by
  have h1 := h.pks (fun x hx => hw x.S (by rw [← hl]; exact List.mem_map_of_mem hx))
  have e : (xs.map fun x => pkgS x.S) = l.map pkgS := by rw [← hl, List.map_map]; rfl
  rwa [e] at h1
theorem mkS_toLZ (l : Bs) : (mkS l).toList = l := by
  rw [ByteArray.toList_eq]
  rfl
theorem eqBZ (a b : Bs) : (a == b) = decide (a = b) := by
  by_cases h : a = b
  · subst h; simp
  · simp [h]
set_option maxHeartbeats 16000000 in
set_option maxRecDepth 1000000 in
theorem suBlocks_any (hR : ReadOk) (hAw : AwakeOk) (t : Bs) (ht : t.length ≤ 9223372036854775807) (A : Option Addr) (c : Nat) (ss : List ByteArray) (hnc : ss.length ≤ c) (hcm : c ≤ 9223372036854775807) (hss : ∀ s ∈ ss, s.size ≤ 9223372036854775807) (W : World) (hrd : Rd W W.heap.size A (ss.map Value.string)) (hE : SuW W) :
    Calls Tryz.prog 10 #[.string (mkS t), .slice A ss.length c] W fun e w' => e = .returned (.bool true) ∧ Below W.heap.size W w' := by
  have CA := Lib.hid (hAw W hE)
  have HRD := Lib.hid hrd
  have HSS := Lib.hid hss
  have HE0 := Lib.hid hE
  have HRO := Lib.hid hR
  have hts : (mkS t).size = t.length := mkS_size t
  have Hq4 : Hid (((mkS t).toList == [80, 107, 103]) = decide (t = pkgN)) := by show (_ == _) = _; rw [mkS_toLZ]; exact eqBZ _ _
  have Hq5 : Hid (((mkS t).toList == [86, 110, 100]) = decide (t = vndN)) := by show (_ == _) = _; rw [mkS_toLZ]; exact eqBZ _ _
  have HBY : Hid (∀ k (h : k < (mkS t).size), t[k]? = some ((mkS t)[k]'h)) := fun k h => by
    have := byte_at h
    rw [mkS_list] at this
    exact this
  obtain ⟨T, hT⟩ : ∃ T, T = mkS t := ⟨_, rfl⟩
  have HT := Lib.hid hT
  rw [← hT] at hts Hq4 Hq5 HBY
  rw [← hT]
  clear hrd hss hE hR hAw hT
  go_enter Tryz.func10, Tryz.ntmps10
  go_wp2_with fail
  refine CA.out.mono ?_
  rintro e w1 ⟨rfl, hb1⟩
  have HB1 := Lib.hid hb1
  have HE1 := Lib.hid (HE0.out.below hb1)
  have HRD1 := Lib.hid (HRD.out.below hb1 (Nat.le_refl _))
  clear hb1 CA HRD HE0
  by_cases h3 : t.length = 3
  rotate_left
  · have q3 : ((T.size : Int) != 3) = true := by rw [hts]; simp; omega
    clear hts h3 Hq4 Hq5 HBY
    go_wp2_with fail
    go_ret
    exact ⟨rfl, HB1.out⟩
  have hT3 : T.size = 3 := by rw [hts, h3]
  have q3 : ((T.size : Int) != 3) = false := by rw [hT3]; rfl
  have HT3 := Lib.hid hT3
  have H3 := Lib.hid h3
  clear hts h3 hT3 ht
  by_cases hp : t = pkgN
  · have q4 : (T.toList == [80, 107, 103]) = true := by rw [Hq4.out]; simp [hp]
    clear hp Hq4 Hq5 HBY
    go_wp2_with fail
    go_ret
    exact ⟨rfl, HB1.out⟩
  have q4 : (T.toList == [80, 107, 103]) = false := by rw [Hq4.out]; simp [hp]
  by_cases hv : t = vndN
  · have q5 : (T.toList == [86, 110, 100]) = true := by rw [Hq5.out]; simp [hv]
    clear hp hv Hq4 Hq5 HBY
    go_wp2_with fail
    go_ret
    exact ⟨rfl, HB1.out⟩
  have q5 : (T.toList == [86, 110, 100]) = false := by rw [Hq5.out]; simp [hv]
  have HNP := Lib.hid hp
  clear hp hv Hq4 Hq5
  by_cases hn : 40 < ss.length
  · have hnI : (40 : Int) < (ss.length : Int) := by omega
    clear HBY
    go_wp2_with fail
    go_ret
    exact ⟨rfl, HB1.out⟩
  have hnI : ¬ (40 : Int) < (ss.length : Int) := by omega
  go_wp2_with fail
  clear q3 q4 q5
  go_loop [6] (fun v6 => ∃ k : Nat, k ≤ 3 ∧ v6 = .int .i64 (k : Int) ∧ Hid (∀ x ∈ t.take k, 65 ≤ x.toNat ∧ x.toNat ≤ 122)) (fun v6 => 3 - (intOf v6).toNat)
  case atStart => exact ⟨0, Nat.zero_le _, rfl, show ∀ x ∈ t.take 0, _ from fun x hx => by simp at hx⟩
  case round =>
    obtain ⟨k, hk, rfl, hall⟩ := hrel
    by_cases hlt : k < 3
    · have hkT : k < T.size := by have := HT3.out; omega
      have hkI : (k : Int) < (T.size : Int) := by omega
      have hltI : (k : Int) < 3 := by omega
      have HX := Lib.hid (HBY.out k hkT)
      by_cases hlo : (T[k]'hkT).toNat < 65
      · have hloI : (((T[k]'hkT).toNat : Nat) : Int) < 65 := by omega
        go_wp2_with fail
        go_ret
        exact ⟨rfl, HB1.out⟩
      have hloI : ¬ (((T[k]'hkT).toNat : Nat) : Int) < 65 := by omega
      by_cases hhi : 122 < (T[k]'hkT).toNat
      · have hhiI : (122 : Int) < (((T[k]'hkT).toNat : Nat) : Int) := by omega
        go_wp2_with fail
        go_ret
        exact ⟨rfl, HB1.out⟩
      have hhiI : ¬ (122 : Int) < (((T[k]'hkT).toNat : Nat) : Int) := by omega
      have HN : Hid (∀ x ∈ t.take (k + 1), 65 ≤ x.toNat ∧ x.toNat ≤ 122) := fun x hx => by
        rw [List.take_add_one, HX.out] at hx
        rcases List.mem_append.1 hx with hx | hx
        · exact hall.out x hx
        · simp at hx
          rw [hx]
          omega
      clear hall HX hlo hhi
      go_wp2_with fail
      go_round
      case rel => exact ⟨k + 1, by omega, by go_num, HN⟩
      case measure => simp [intOf]; omega
    obtain rfl : k = 3 := by omega
    have HTG : Hid (TagG t) := ⟨fun e => (by have h := H3.out; rw [e] at h; cases h), fun x hx => hall.out x (by rw [List.take_of_length_le (by have := H3.out; omega)]; exact hx)⟩
    have hTz : T.size ≤ 3 := by have := HT3.out; omega
    clear hall hlt HBY hk
    go_wp2_with fail
    go_loop [8, 9, 10] (fun v8 v9 v10 => ∃ (k : Nat) (vs : List Bs), k ≤ ss.length ∧ v8 = .string (mkS (oneG t vs)) ∧ v9 = .string (mkS (twoG t vs)) ∧ v10 = .int .i64 (k : Int) ∧ Hid (vs.length = k ∧ ∀ v ∈ vs, ValG v ∧ v.length ≤ 500)) (fun _ _ v10 => ss.length - (intOf v10).toNat)
    case atStart => exact ⟨0, [], Nat.zero_le _, rfl, by rw [HT.out, cat_head], rfl, show _ ∧ _ from ⟨rfl, fun v hv => by cases hv⟩⟩
    case round =>
      obtain ⟨k, vs, hk, rfl, rfl, rfl, hvs⟩ := hrel
      have hO : (mkS (oneG t vs)).size ≤ 20787 := by
        rw [mkS_size]
        have h1 := oneG_len t H3.out vs (fun v hv => (hvs.out.2 v hv).2)
        have h2 := hvs.out.1
        have h4 : (vs.length + 1) * 507 ≤ 41 * 507 := Nat.mul_le_mul_right _ (by omega)
        omega
      have hP : (mkS (twoG t vs)).size ≤ 21042 := by
        rw [mkS_size]
        have h1 := twoG_len t H3.out vs (fun v hv => (hvs.out.2 v hv).2)
        have h2 := hvs.out.1
        have h4 : (vs.length + 2) * 501 ≤ 42 * 501 := Nat.mul_le_mul_right _ (by omega)
        omega
      obtain ⟨O, hOq⟩ : ∃ O, O = mkS (oneG t vs) := ⟨_, rfl⟩
      obtain ⟨P, hPq⟩ : ∃ P, P = mkS (twoG t vs) := ⟨_, rfl⟩
      have HO := Lib.hid hOq
      have HP := Lib.hid hPq
      rw [← hOq] at hO
      rw [← hPq] at hP
      rw [← hOq, ← hPq]
      clear hOq hPq
      by_cases hlt : k < ss.length
      · obtain ⟨s, hs⟩ : ∃ s, ss[k]? = some s := ⟨_, List.getElem?_eq_getElem hlt⟩
        have hsz := HSS.out s (List.mem_of_getElem? hs)
        obtain ⟨b0, o0, rfl, hb0, hc0⟩ := HRD1.out.at_ (k := k) (v := .string s) (by simp [hs])
        have hltI : (k : Int) < (ss.length : Int) := by omega
        have hlt' : decide (k < ss.length) = true := by simpa using hlt
        have CT : Hid (Calls Tryz.prog 20 #[.string s] w1 fun e w' => e = .returned (.string (mkS (dTrim s.data.toList))) ∧ w1 = w') := refTrim_any s.data.toList (by rw [size_len]; exact hsz) w1
        have HTF := Lib.hid (fun c r => trim_first (x := s.data.toList) (c := c) (r := r))
        have hVz : (mkS (dTrim s.data.toList)).size = (dTrim s.data.toList).length := mkS_size _
        have hVb : (mkS (dTrim s.data.toList)).size ≤ 9223372036854775807 := by
          rw [hVz]
          have := dTrim_len s.data.toList
          have := size_len s
          omega
        have HVY : Hid (∀ j (h : j < (mkS (dTrim s.data.toList)).size), (dTrim s.data.toList)[j]? = some ((mkS (dTrim s.data.toList))[j]'h)) := fun j h => by
          have := byte_at h
          rw [mkS_list] at this
          exact this
        have HVZ := Lib.hid hVz
        clear hs hb0 hVz hsz
        generalize dTrim s.data.toList = v at *
        obtain ⟨V, hVq⟩ : ∃ V, V = mkS v := ⟨_, rfl⟩
        have HV := Lib.hid hVq
        rw [← hVq] at CT hVb HVY HVZ
        clear hVq
        go_wp2_with fail
        refine CT.out.mono ?_
        rintro e w2 ⟨rfl, rfl⟩
        clear CT hc0
        go_wp2_with fail
        go_loop [12] (fun v12 => ∃ j : Nat, j ≤ V.size ∧ v12 = .int .i64 (j : Int) ∧ Hid (∀ x ∈ v.take j, x ≠ 10)) (fun v12 => V.size - (intOf v12).toNat)
        case atStart => exact ⟨0, Nat.zero_le _, rfl, show ∀ x ∈ v.take 0, _ from fun x hx => by simp at hx⟩
        case round =>
          obtain ⟨j, hj, rfl, hpre⟩ := hrel
          by_cases hjl : j < V.size
          · have HX := Lib.hid (HVY.out j hjl)
            have hjI : (j : Int) < (V.size : Int) := by omega
            by_cases h10 : V[j]'hjl = 10
            · have t10 : (((V[j]'hjl).toNat : Int) == 10) = true := by rw [h10]; rfl
              clear h10
              go_wp2_with fail
              go_ret
              exact ⟨rfl, HB1.out⟩
            have t10 : (((V[j]'hjl).toNat : Int) == 10) = false := beq_eq_false_iff_ne.2 fun e => h10 (UInt8.toNat_inj.1 (by show _ = 10; omega))
            have HN : Hid (∀ x ∈ v.take (j + 1), x ≠ 10) := fun x hx => by
              rw [List.take_add_one, HX.out] at hx
              rcases List.mem_append.1 hx with hx | hx
              · exact hpre.out x hx
              · simp at hx
                rw [hx]
                exact h10
            clear hpre HX h10
            go_wp2_with fail
            go_round
            case rel => exact ⟨j + 1, by omega, by go_num, HN⟩
            case measure => simp [intOf]; omega
          have hjI : ¬ (j : Int) < (V.size : Int) := by omega
          have HV10 : Hid (∀ x ∈ v, x ≠ 10) := fun x hx => hpre.out x (by rw [List.take_of_length_le (by have := HVZ.out; omega)]; exact hx)
          clear hpre hjl
          cases hvc : v with
          | nil =>
            have he : V.toList.isEmpty = true := by rw [HV.out, hvc, isEmpty_mkS]; rfl
            clear hvc
            go_wp2_with fail
            go_ret
            exact ⟨rfl, HB1.out⟩
          | cons c0 r0 =>
            have he : V.toList.isEmpty = false := by rw [HV.out, hvc, isEmpty_mkS]; rfl
            have hV0 : 0 < V.size := by rw [HVZ.out, hvc]; simp
            have hV0I : (0 : Int) < (V.size : Int) := by omega
            have hg0 : V[0]'hV0 = c0 := by
              have := HVY.out 0 hV0
              rw [hvc] at this
              injection this with this
              exact this.symm
            have HLY := Lib.hid (HTF.out c0 r0 hvc)
            have HVC := Lib.hid hvc
            clear hvc
            by_cases h45 : c0 = 45
            · have t45 : (((V[0]'hV0).toNat : Int) == 45) = true := by rw [hg0, h45]; rfl
              clear hg0 h45
              go_wp2_with fail
              go_ret
              exact ⟨rfl, HB1.out⟩
            have t45 : (((V[0]'hV0).toNat : Int) == 45) = false := beq_eq_false_iff_ne.2 fun e => h45 (UInt8.toNat_inj.1 (by rw [← hg0]; show _ = 45; omega))
            have H45 := Lib.hid h45
            clear hg0 h45
            by_cases h500 : 500 < V.size
            · have h500I : (500 : Int) < (V.size : Int) := by omega
              go_wp2_with fail
              go_ret
              exact ⟨rfl, HB1.out⟩
            have h500I : ¬ (500 : Int) < (V.size : Int) := by omega
            have HNN : Hid ((vs ++ [v]).length = k + 1 ∧ ∀ x ∈ vs ++ [v], ValG x ∧ x.length ≤ 500) := ⟨by rw [List.length_append, hvs.out.1]; rfl, fun x hx => by
              rcases List.mem_append.1 hx with hx | hx
              · exact hvs.out.2 x hx
              · rw [List.mem_singleton.1 hx]
                exact ⟨⟨⟨c0, r0, HVC.out, HLY.out, H45.out⟩, HV10.out⟩, by rw [← HVZ.out]; omega⟩⟩
            go_wp2_with fail
            go_round
            case rel => exact ⟨k + 1, vs ++ [v], by omega, by rw [HO.out, HT.out, HV.out, cat_line, oneG_snoc], by rw [HP.out, HV.out, cat_val, twoG_snoc], by go_num, HNN⟩
            case measure => simp [intOf]; omega
      obtain rfl : k = ss.length := by omega
      have hltI : ¬ ((ss.length : Nat) : Int) < ((ss.length : Nat) : Int) := by omega
      obtain ⟨X, hX⟩ : ∃ X, X = parseS (oneB t vs) := ⟨_, rfl⟩
      have hX2 : X = parseS (twoB t vs) := by
        rw [hX]
        refine blocks_same HTG.out HNP.out (fun v hv => (hvs.out.2 v hv).1) ?_ ?_
        · have := hO; rw [HO.out, mkS_size] at this
          show (oneG t vs).length ≤ _
          omega
        · have := hP; rw [HP.out, mkS_size] at this
          rw [twoB_is, List.length_append]
          have h5 : (lineE t ++ [10]).length = 6 := by unfold lineE; simp; have := H3.out; omega
          omega
      have C1 : Hid (Calls Tryz.prog 17 #[.string O] w1 (ParseS w1 X)) := by rw [HO.out, hX]; exact suParse_any HRO.out (oneG t vs) w1 HE1.out.tabs HE1.out.max
      have C2 : Hid (∀ wx, Below w1.heap.size w1 wx → Calls Tryz.prog 17 #[.string (P ++ ⟨#[45]⟩ ++ T ++ ⟨#[58, 10]⟩)] wx (ParseS wx X)) := fun wx hb => by
        rw [HP.out, HT.out, cat_end, ← twoB_is, hX2]
        exact suParse_any HRO.out (twoB t vs) wx (HE1.out.below hb).tabs (HE1.out.below hb).max
      have HW : Hid (∀ l, X = .ok l → (∀ S ∈ l, chkS S = 0) ∧ l.length ≤ 200) := fun l hl => ⟨parseS_whole (hX.symm.trans hl), parseS_len (hX.symm.trans hl)⟩
      clear hX hX2 hvs HE1 HRD1 HSS hlt
      go_wp2_with fail
      refine C1.out.mono ?_
      intro e w2 hp1
      cases X with
      | error n =>
        obtain ⟨rfl, hn1, hb2⟩ := hp1
        have HB2 := Lib.hid (HB1.out.trans (hb2.mono HB1.out.size))
        have C2w := Lib.hid (C2.out w2 hb2)
        clear hb2 hn1 C1 C2 HB1 HW
        go_wp2_with fail
        refine C2w.out.mono ?_
        rintro e w3 ⟨rfl, hn3, hb3⟩
        have HB3 := Lib.hid (HB2.out.trans (hb3.mono HB2.out.size))
        have CS := Lib.hid (Ev.same_any [] none none 0 0 0 w3 rfl (fun k p hk => by simp at hk) (fun k p hk => by simp at hk) (Nat.zero_le _))
        clear hb3 hn3 C2w HB2
        go_wp2_with fail
        refine CS.out.mono ?_
        rintro e w4 ⟨rfl, hb4⟩
        have HB4 := Lib.hid (HB3.out.trans (hb4.mono HB3.out.size))
        clear hb4 CS HB3
        go_wp2_with fail
        go_ret
        exact ⟨by first | rfl | simp, HB4.out⟩
      | ok l =>
        obtain ⟨va, xs, rfl, hxm, hPx⟩ := hp1
        obtain ⟨Ax, kx, rfl, hkx1, hkx2⟩ := own_form' hPx.row
        have hlx : xs.length = l.length := by rw [← hxm, List.length_map]
        obtain ⟨hwh, hl200⟩ := HW.out l rfl
        have HPX := Lib.hid (hPx.pksL hxm hwh)
        have HWH := Lib.hid hwh
        have HB2 := Lib.hid (HB1.out.trans (hPx.bel.mono HB1.out.size))
        have C2w := Lib.hid (C2.out w2 hPx.bel)
        rw [hlx] at hkx1 ⊢
        clear hPx hxm hwh C1 C2 HB1 HW hlx
        go_wp2_with fail
        refine C2w.out.mono ?_
        rintro e w3 ⟨vb, ys, rfl, hym, hPy⟩
        obtain ⟨Ay, ky, rfl, hky1, hky2⟩ := own_form' hPy.row
        have hly : ys.length = l.length := by rw [← hym, List.length_map]
        have HB3 := Lib.hid (HB2.out.trans (hPy.bel.mono HB2.out.size))
        have CS := Lib.hid (Ev.same_any (l.map pkgS) Ax Ay l.length kx ky w3 (List.length_map _) (HPX.out.below hPy.bel) (hPy.pksL hym HWH.out) (by omega))
        rw [hly] at hky1 ⊢
        clear hPy hym C2w HB2 HPX HWH hly
        go_wp2_with fail
        refine CS.out.mono ?_
        rintro e w4 ⟨rfl, hb4⟩
        have HB4 := Lib.hid (HB3.out.trans (hb4.mono HB3.out.size))
        clear hb4 CS HB3
        go_wp2_with fail
        go_ret
        exact ⟨by first | rfl | simp, HB4.out⟩
end Go.Proofs.YtdhgiammfpjniaaGreatDoor

/- SuseBlocks: the law at what came in. -/
namespace Go.Proofs.YtdhgiammfpjniaaGreatDoor
set_option linter.unusedSimpArgs false
set_option linter.unusedVariables false
open Go.RowKit

theorem suseBlocks_walk {H : Type} {enc : TypeId × Value → H} (W : World) {v0 v1 : Value} {d0 d1 : DataW H} (h0 : In enc Tryz.prog W 9 v0 d0) (h1 : In enc Tryz.prog W 32 v1 d1)
    (hL : laidMetH Tryz.prog Rows.suseBlocksRow.laid W) (hsz : (DataW.weightsEach Tryz.prog [9, 32] [d0, d1]).all (· ≤ reachBytes) = true) (hSh : W.ShapedOpen Tryz.prog) :
    Calls Tryz.prog 10 #[v0, v1] W (TrueBelow W) := by
  obtain ⟨s0, rfl, e0, hs0⟩ := h0.string Tryz.underlying9
  obtain ⟨A, n, c, ss, rfl, hl, hnc, hcm, hrd, hss, _, _⟩ := h1.strings Tryz.underlying32 Tryz.underlying9 (by kernel_rfl)
  subst hl
  rw [MakeChecks.laidMetH_plain _ _ _ (by kernel_rfl)] at hL
  have hE := suW_of hL (by simp [Rows.suseBlocksRow]) (by simp [Rows.suseBlocksRow]) hSh
  rw [← mk_ofS s0]
  unfold maxLen at hs0 hcm hss
  exact suBlocks_any read_ok (suAwake_any read_ok) _ (by have := size_len s0; omega) A c ss hnc (by omega) (fun s hs => by have := hss s hs; omega) W hrd hE
end Go.Proofs.YtdhgiammfpjniaaGreatDoor
