/- Whether a text is layout alone: strings.Trim. -/
import Derived.Test.YtoifibnmincodaaGreatDoorXb
import Derived.Test.YtoifibnmincodaaGreatDoorXs
namespace Go.Proofs.YtoifibnmincodaaGreatDoor
set_option linter.unusedSimpArgs false
set_option linter.unusedVariables false
open Go.RowKit

def layS : Bs := [9, 10, 13, 32]
theorem lay_has (c : UInt8) : layS.contains c = xLay c := by
  unfold layS xLay
  simp only [List.contains_cons, List.contains_nil, Bool.or_false, Bool.or_assoc]
def allLay (l : Bs) : Bool := l.all xLay
/-- A set of bytes in memory. -/
def SetAt (w : World) (b : Nat) : Prop := ∀ x : UInt8, w.cell? ⟨b, x.toNat, none⟩ = some (.bool (xLay x))
set_option maxHeartbeats 4000000 in
set_option maxRecDepth 1000000 in
theorem trimR_any (b : Nat) (w : World) (hs : SetAt w b) (l : Bs) (hl : l.length ≤ 200000) :
    Calls Tryz.prog 64 #[.string (mkS l), .pointer (some ⟨b, 0, none⟩)] w fun e w' => (∃ t : Bs, e = .returned (.string (mkS t)) ∧ t.length ≤ l.length ∧ ((t = [] ∧ allLay l = true) ∨ ∃ i c, t = i ++ [c] ∧ xLay c = false ∧ allLay l = false)) ∧ w = w' := by
  have HS := Lib.hid hs
  clear hs
  have HC := Lib.hid (fun x w hc => Tryz.asciiSet_contains b x (xLay x) w hc)
  go_enter Tryz.func64, Tryz.ntmps64
  go_wp2_with fail
  go_loop [0] (fun v => ∃ k : Nat, k ≤ l.length ∧ v = .string (mkS (l.take k)) ∧ Hid (allLay (l.drop k) = true)) (fun v => match v with | .string s => s.size | _ => 0)
  case atStart => exact ⟨l.length, Nat.le_refl _, by rw [List.take_length], by show allLay (l.drop l.length) = true; rw [List.drop_length]; rfl⟩
  case round =>
    obtain ⟨k, hk, rfl, hall⟩ := hrel
    have hz : (mkS (l.take k)).size = k := by rw [mkS_size, List.length_take]; omega
    cases k with
    | zero =>
      have HV : Hid (allLay l = true) := hall.out
      have h0 : ((mkS (l.take 0)).size : Int) = 0 := by rw [hz]; rfl
      go_wp2_with fail
      go_ret
      exact ⟨⟨[], rfl, Nat.zero_le _, .inl ⟨rfl, HV.out⟩⟩, rfl⟩
    | succ j =>
      have hj : j < l.length := by omega
      have hjz : j < (mkS (l.take (j + 1))).size := by omega
      obtain ⟨c, hc⟩ : ∃ c, c = l[j] := ⟨_, rfl⟩
      have hget : (mkS (l.take (j + 1)))[j]'hjz = c := by
        have h1 := byte_at hjz
        rw [mkS_list, List.getElem?_take, if_pos (by omega), List.getElem?_eq_getElem hj] at h1
        injection h1 with h1
        rw [hc]; exact h1.symm
      have hext : (mkS (l.take (j + 1))).extract 0 j = mkS (l.take j) := by rw [mkS_take, List.take_take, Nat.min_eq_left (by omega)]
      have htk : l.take (j + 1) = l.take j ++ [c] := by rw [List.take_add_one, List.getElem?_eq_getElem hj, hc]; rfl
      have hdr : l.drop j = c :: l.drop (j + 1) := by rw [hc]; exact List.drop_eq_getElem_cons hj
      have HN1 : Hid (xLay c = true → allLay (l.drop j) = true) := fun h => by have := hall.out; unfold allLay at this ⊢; rw [hdr, List.all_cons, h, this]; rfl
      have HN2 : Hid (xLay c = false → allLay l = false) := fun h => by
        unfold allLay; rw [← List.take_append_drop j l, List.all_append, hdr, List.all_cons, h]; simp
      have HTK := Lib.hid htk
      have HZJ : Hid ((mkS (l.take j)).size < (mkS (l.take (j + 1))).size) := by show (mkS _).size < _; rw [hz, mkS_size, List.length_take]; omega
      have CC := Lib.hid (HC.out c w (HS.out c))
      have hs1 : ((mkS (l.take (j + 1))).size : Int) - 1 = (j : Int) := by rw [hz]; omega
      have hs0 : (0 : Int) < ((mkS (l.take (j + 1))).size : Int) := by rw [hz]; omega
      have hz40 : (mkS (l.take (j + 1))).size ≤ 200000 := by rw [hz]; omega
      clear hdr htk hc hz hall hj
      generalize hSS : mkS (l.take (j + 1)) = S at *
      have HSS := Lib.hid hSS
      clear hSS
      generalize hR : mkS (l.take j) = R at *
      have HR := Lib.hid hR
      clear hR
      generalize hxc : xLay c = bb at *
      cases bb with
      | true =>
        clear hxc
        have HN := Lib.hid (HN1.out rfl)
        clear HN1 HN2
        go_wp2_with fail
        refine CC.out.mono ?_
        rintro e w1 ⟨rfl, rfl⟩
        go_wp2_with fail
        go_round
        case rel => exact ⟨j, by omega, by rw [HR.out], HN⟩
        case measure => exact HZJ.out
      | false =>
        have HN := Lib.hid (HN2.out rfl)
        have HXC := Lib.hid hxc
        clear HN1 HN2 hxc
        go_wp2_with fail
        refine CC.out.mono ?_
        rintro e w1 ⟨rfl, rfl⟩
        go_wp2_with fail
        go_ret
        exact ⟨⟨l.take (j + 1), (by first | (rw [HSS.out]; done) | (rw [HSS.out]; rfl)), by simp; omega, .inr ⟨l.take j, c, HTK.out, HXC.out, HN.out⟩⟩, rfl⟩
set_option maxHeartbeats 4000000 in
set_option maxRecDepth 1000000 in
theorem trimL_any (b : Nat) (w : World) (hs : SetAt w b) (l : Bs) (hl : l.length ≤ 200000) (h : l = [] ∨ ∃ i c, l = i ++ [c] ∧ xLay c = false) :
    Calls Tryz.prog 63 #[.string (mkS l), .pointer (some ⟨b, 0, none⟩)] w fun e w' => (∃ t : Bs, e = .returned (.string (mkS t)) ∧ (t = [] ↔ l = [])) ∧ w = w' := by
  have HS := Lib.hid hs
  clear hs
  have HC := Lib.hid (fun x w hc => Tryz.asciiSet_contains b x (xLay x) w hc)
  have HH := Lib.hid h
  clear h
  go_enter Tryz.func63, Tryz.ntmps63
  go_wp2_with fail
  go_loop [0] (fun v => ∃ m : Bs, m.length ≤ l.length ∧ v = .string (mkS m) ∧ Hid ((m = [] ↔ l = []) ∧ (m = [] ∨ ∃ i c, m = i ++ [c] ∧ xLay c = false))) (fun v => match v with | .string s => s.size | _ => 0)
  case atStart => exact ⟨l, Nat.le_refl _, rfl, Iff.rfl, HH.out⟩
  case round =>
    obtain ⟨m, hm, rfl, hall⟩ := hrel
    cases m with
    | nil =>
      have HV : Hid (l = []) := hall.out.1.1 rfl
      have h0 : ((mkS []).size : Int) = 0 := rfl
      generalize hSS : mkS [] = S at *
      have HSS := Lib.hid hSS
      clear hSS hall
      go_wp2_with fail
      go_ret
      exact ⟨⟨[], (by first | (rw [HSS.out]; done) | (rw [HSS.out]; rfl)), ⟨fun _ => HV.out, fun _ => rfl⟩⟩, rfl⟩
    | cons c r =>
      have hjz : 0 < (mkS (c :: r)).size := by rw [mkS_size]; simp
      have hget : (mkS (c :: r))[0]'hjz = c := rfl
      have hext : (mkS (c :: r)).extract 1 (mkS (c :: r)).size = mkS r := by rw [mkS_drop]; rfl
      have CC := Lib.hid (HC.out c w (HS.out c))
      have hs0 : (0 : Int) < ((mkS (c :: r)).size : Int) := by omega
      have hz40 : (mkS (c :: r)).size ≤ 200000 := by rw [mkS_size]; omega
      have HZJ : Hid ((mkS r).size < (mkS (c :: r)).size) := by show (mkS r).size < _; rw [mkS_size, mkS_size]; simp
      have HRN : Hid (xLay c = true → (r = [] ↔ l = []) ∧ (r = [] ∨ ∃ i c, r = i ++ [c] ∧ xLay c = false)) := fun hc => by
        obtain ⟨h1, h2⟩ := hall.out
        rcases h2 with h2 | ⟨i, d, hid, hd⟩
        · cases h2
        · cases i with
          | nil =>
            simp at hid
            rw [hid.1] at hc
            rw [hc] at hd; cases hd
          | cons x i =>
            have hr : r = i ++ [d] := by simpa using (List.cons.inj hid).2
            refine ⟨⟨fun h => by rw [h] at hr; simp at hr, fun h => absurd (h1.2 h) (by simp)⟩, .inr ⟨i, d, hr, hd⟩⟩
      have HQ := Lib.hid hall.out.1
      have hrl : r.length ≤ l.length := by simp at hm; omega
      clear hall hm
      generalize hSS : mkS (c :: r) = S at *
      generalize hRR : mkS r = R at *
      have HSS := Lib.hid hSS
      have HR := Lib.hid hRR
      clear hSS hRR
      generalize xLay c = bb at *
      cases bb with
      | true =>
        have HN := Lib.hid (HRN.out rfl)
        clear HRN
        go_wp2_with fail
        refine CC.out.mono ?_
        rintro e w1 ⟨rfl, rfl⟩
        go_wp2_with fail
        go_round
        case rel => exact ⟨r, hrl, by rw [HR.out], HN⟩
        case measure => exact HZJ.out
      | false =>
        clear HRN
        go_wp2_with fail
        refine CC.out.mono ?_
        rintro e w1 ⟨rfl, rfl⟩
        go_wp2_with fail
        go_ret
        exact ⟨⟨c :: r, (by first | (rw [HSS.out]; done) | (rw [HSS.out]; rfl)), HQ.out⟩, rfl⟩
set_option maxHeartbeats 8000000 in
set_option maxRecDepth 1000000 in
theorem trim_any (l : Bs) (hl : l.length ≤ 200000) (w : World) :
    Calls Tryz.prog 41 #[.string (mkS l), .string (mkS layS)] w fun e w' => (∃ t : Bs, e = .returned (.string (mkS t)) ∧ (t = [] ↔ allLay l = true)) ∧ Below w.heap.size w w' := by
  have CM := Lib.hid (fun w => Tryz.strings_makeASCIISet zeroSet (mkS layS) w (by decide) (fun j b hb => by
    have h : ∀ c ∈ layS, c.toNat < 128 := by decide
    exact h b (List.mem_of_getElem? hb)))
  obtain ⟨CS, hCS⟩ : ∃ CS, CS = Lib.setCells layS := ⟨_, rfl⟩
  have S1 := Lib.hid (show CS.size = 256 from hCS ▸ Lib.setCells_size _)
  have S2 := Lib.hid (show CS.all (·.oneCell') = true from hCS ▸ Lib.setCells_one _)
  have S3 : Hid (∀ x : UInt8, CS[x.toNat]? = some (.bool (xLay x))) := fun x => by
    rw [hCS, Lib.setCells_at, lay_has]
  rw [mkS_list, ← hCS] at CM
  clear hCS
  have hsc : (storeCells ⟨w.heap.size + 1, 0, none⟩ CS.toList 0).run Tryz.prog ((w.alloc (.cells CS 108)).alloc (.cells (Array.replicate 256 (.bool false)) 108)) = .ok () ((w.alloc (.cells CS 108)).alloc (.cells CS 108)) := by
    have := run_storeCells_new (P := Tryz.prog) (w.alloc (.cells CS 108)) 108 (Array.replicate 256 (.bool false)) CS (by rw [S1.out]; kernel_rfl) (by rw [S1.out, Array.size_replicate]) S2.out
    simpa using this
  have hlay : (mkS layS).toList.isEmpty = false := by rw [toList_cons (by decide)]
  have hone : (((mkS layS).size : Int) == 1) = false := by decide
  have hzs := zeroSet
  cases hl0 : l with
  | nil =>
    have hemp : (mkS ([] : Bs)).toList.isEmpty = true := by rw [isEmpty_mkS]; rfl
    generalize hSS : mkS ([] : Bs) = S at *
    have HSS := Lib.hid hSS
    clear hSS hl0 hl
    generalize mkS layS = LS at *
    go_enter Tryz.func41, Tryz.ntmps41
    go_wp2_with fail
    go_ret
    exact ⟨⟨[], (by first | (rw [HSS.out]; done) | (rw [HSS.out]; rfl)), ⟨fun _ => rfl, fun _ => rfl⟩⟩, Below.refl _ _⟩
  | cons c r =>
    rw [← hl0]
    have hemp : (mkS l).toList.isEmpty = false := by rw [isEmpty_mkS, hl0]; rfl
    clear hl0 c r
    have CR := Lib.hid (fun b w hs => trimR_any b w hs l hl)
    generalize mkS l = S at *
    generalize mkS layS = LS at *
    go_enter Tryz.func41, Tryz.ntmps41
    go_wp2_with (go_at_call 62; refine (CM.out _).mono ?_; rintro e w' ⟨rfl, hw⟩; rw [hw])
    have HB : Hid (Below w.heap.size w ((w.alloc (.cells CS 108)).alloc (.cells CS 108))) := ((Below.refl _ _).alloc (Nat.le_refl _) _).alloc (by simp) _
    have HC : SetAt ((w.alloc (.cells CS 108)).alloc (.cells CS 108)) (w.heap.size + 1) := fun x => by
      rw [(Blk.new' (w := w.alloc (.cells CS 108)) (g := w.heap.size + 1) (t := 108) (cs := CS) (by simp)).cell]
      exact S3.out x
    have CR1 := Lib.hid (CR.out _ _ HC)
    have HCC := Lib.hid HC
    clear hsc CM hzs HC CR
    generalize ((w.alloc (.cells CS 108)).alloc (.cells CS 108)) = w1 at *
    go_wp2_with fail
    refine CR1.out.mono ?_
    rintro e w2 ⟨⟨t, rfl, htl, ht⟩, rfl⟩
    have CL1 := Lib.hid (trimL_any (w.heap.size + 1) w1 HCC.out t (Nat.le_trans htl hl) (ht.elim (fun h => .inl h.1) (fun ⟨i, c, h1, h2, _⟩ => .inr ⟨i, c, h1, h2⟩)))
    have HT : Hid (t = [] ↔ allLay l = true) := by
      rcases ht with ⟨h1, h2⟩ | ⟨i, c, h1, h2, h3⟩
      · exact ⟨fun _ => h2, fun _ => h1⟩
      · exact ⟨fun h => by rw [h1] at h; simp at h, fun h => by rw [h3] at h; cases h⟩
    clear ht CR1
    go_wp2_with fail
    refine CL1.out.mono ?_
    rintro e w2 ⟨⟨u, rfl, hu⟩, rfl⟩
    have HU := Lib.hid hu
    clear hu CL1
    go_wp2_with fail
    go_ret
    exact ⟨⟨u, rfl, HU.out.trans HT.out⟩, HB.out⟩
end Go.Proofs.YtoifibnmincodaaGreatDoor
