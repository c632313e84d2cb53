/- Texts made of bytes. strings.Trim and strings.TrimLeft of blanks and bytes 9. strings.Clone. A part of a text up to some bytes: cut; the sign that a text begins with: comparison. -/
import Derived.Test.YtdhgiammfpjniaaGreatDoorZaac
import Derived.StillTailTactics
/- Texts made of bytes. -/
namespace Go.Proofs.YtdhgiammfpjniaaGreatDoor
set_option linter.unusedSimpArgs false
set_option linter.unusedVariables false
open Go.RowKit

theorem isEmpty_mkS (l : Bs) : (mkS l).toList.isEmpty = l.isEmpty := by rw [ByteArray.toList_eq]; rfl
end Go.Proofs.YtdhgiammfpjniaaGreatDoor

/- strings.Trim and strings.TrimLeft of blanks and bytes 9. -/
namespace Go.Proofs.YtdhgiammfpjniaaGreatDoor
set_option linter.unusedSimpArgs false
set_option linter.unusedVariables false
open Go.RowKit

def dLay (c : UInt8) : Bool := c == 32 || c == 9
def dLayS : Bs := [32, 9]
theorem dLay_has (c : UInt8) : dLayS.contains c = dLay c := by
  unfold dLayS dLay
  simp only [List.contains_cons, List.contains_nil, Bool.or_false, Bool.or_assoc]
def dR (l : Bs) : Bs := (l.reverse.dropWhile dLay).reverse
def dL (l : Bs) : Bs := l.dropWhile dLay
def dTrim (l : Bs) : Bs := dL (dR l)
theorem dropw_all : ∀ {l : Bs}, l.all dLay = true → ∀ m : Bs, (l ++ m).dropWhile dLay = m.dropWhile dLay
  | [], _, m => rfl
  | c :: r, h, m => by
    rw [List.all_cons, Bool.and_eq_true] at h
    rw [List.cons_append, List.dropWhile_cons, if_pos h.1]
    exact dropw_all h.2 m
theorem all_rev (l : Bs) : l.reverse.all dLay = l.all dLay := by simp
theorem dR_end {l : Bs} {j : Nat} {c : UInt8} (h : (l.drop (j + 1)).all dLay = true) (hc : l[j]? = some c) (hn : dLay c = false) : dR l = l.take (j + 1) := by
  have e : l = l.take (j + 1) ++ l.drop (j + 1) := (List.take_append_drop _ _).symm
  have e2 : l.take (j + 1) = l.take j ++ [c] := by rw [List.take_add_one, hc]; rfl
  unfold dR
  have e3 : l.reverse = (l.drop (j + 1)).reverse ++ (c :: (l.take j).reverse) := by
    conv => lhs; rw [e, List.reverse_append, e2, List.reverse_append]
    rfl
  rw [e3, dropw_all (by rw [all_rev]; exact h), List.dropWhile_cons, if_neg (by rw [hn]; simp), e2]
  simp
theorem dR_none {l : Bs} (h : l.all dLay = true) : dR l = [] := by
  unfold dR
  have := dropw_all (l := l.reverse) (by rw [all_rev]; exact h) []
  rw [List.append_nil] at this
  rw [this]
  rfl
theorem dR_len (l : Bs) : (dR l).length ≤ l.length := by
  unfold dR
  rw [List.length_reverse]
  have := (List.dropWhile_suffix (l := l.reverse) dLay).length_le
  simpa using this
theorem dL_len (l : Bs) : (dL l).length ≤ l.length := (List.dropWhile_suffix (l := l) dLay).length_le
theorem dTrim_len (l : Bs) : (dTrim l).length ≤ l.length := Nat.le_trans (dL_len _) (dR_len _)
/-- A set of bytes in memory. -/
def SetD (w : World) (b : Nat) : Prop := ∀ x : UInt8, w.cell? ⟨b, x.toNat, none⟩ = some (.bool (dLay x))
set_option maxHeartbeats 4000000 in
set_option maxRecDepth 1000000 in
theorem dTrimR_any (b : Nat) (w : World) (hs : SetD w b) (l : Bs) (hl : l.length ≤ 200000) :
    Calls Tryz.prog 90 #[.string (mkS l), .pointer (some ⟨b, 0, none⟩)] w fun e w' => e = .returned (.string (mkS (dR l))) ∧ w = w' := by
  have HS := Lib.hid hs
  clear hs
  have HC := Lib.hid (fun x w hc => Tryz.asciiSet_contains b x (dLay x) w hc)
  go_enter Tryz.func90, Tryz.ntmps90
  go_wp2_with fail
  go_loop [0] (fun v => ∃ k : Nat, k ≤ l.length ∧ v = .string (mkS (l.take k)) ∧ Hid ((l.drop k).all dLay = true)) (fun v => match v with | .string s => s.size | _ => 0)
  case atStart => exact ⟨l.length, Nat.le_refl _, by rw [List.take_length], by show (l.drop l.length).all dLay = true; rw [List.drop_length]; rfl⟩
  case round =>
    obtain ⟨k, hk, rfl, hall⟩ := hrel
    have hz : (mkS (l.take k)).size = k := by rw [mkS_size, List.length_take]; omega
    cases k with
    | zero =>
      have HV : Hid (l.all dLay = true) := hall.out
      have h0 : ((mkS (l.take 0)).size : Int) = 0 := by rw [hz]; rfl
      go_wp2_with fail
      go_ret
      exact ⟨by rw [dR_none HV.out]; rfl, rfl⟩
    | succ j =>
      have hj : j < l.length := by omega
      have hjz : j < (mkS (l.take (j + 1))).size := by omega
      obtain ⟨c, hc⟩ : ∃ c, c = l[j] := ⟨_, rfl⟩
      have hget : (mkS (l.take (j + 1)))[j]'hjz = c := by
        have h1 := byte_at hjz
        rw [mkS_list, List.getElem?_take, if_pos (by omega), List.getElem?_eq_getElem hj] at h1
        injection h1 with h1
        rw [hc]; exact h1.symm
      have hext : (mkS (l.take (j + 1))).extract 0 j = mkS (l.take j) := by rw [mkS_take, List.take_take, Nat.min_eq_left (by omega)]
      have htk : l.take (j + 1) = l.take j ++ [c] := by rw [List.take_add_one, List.getElem?_eq_getElem hj, hc]; rfl
      have hdr : l.drop j = c :: l.drop (j + 1) := by rw [hc]; exact List.drop_eq_getElem_cons hj
      have HN1 : Hid (dLay c = true → (l.drop j).all dLay = true) := fun h => by have := hall.out; rw [hdr, List.all_cons, h, this]; rfl
      have HN2 : Hid (dLay c = false → dR l = l.take (j + 1)) := fun h => dR_end hall.out (by rw [List.getElem?_eq_getElem hj, hc]) h
      have HTK := Lib.hid htk
      have HZJ : Hid ((mkS (l.take j)).size < (mkS (l.take (j + 1))).size) := by show (mkS _).size < _; rw [hz, mkS_size, List.length_take]; omega
      have CC := Lib.hid (HC.out c w (HS.out c))
      have hs1 : ((mkS (l.take (j + 1))).size : Int) - 1 = (j : Int) := by rw [hz]; omega
      have hs0 : (0 : Int) < ((mkS (l.take (j + 1))).size : Int) := by rw [hz]; omega
      have hz40 : (mkS (l.take (j + 1))).size ≤ 200000 := by rw [hz]; omega
      clear hdr htk hc hz hall hj
      generalize hSS : mkS (l.take (j + 1)) = S at *
      have HSS := Lib.hid hSS
      clear hSS
      generalize hR : mkS (l.take j) = R at *
      have HR := Lib.hid hR
      clear hR
      generalize hxc : dLay c = bb at *
      cases bb with
      | true =>
        clear hxc
        have HN := Lib.hid (HN1.out rfl)
        clear HN1 HN2
        go_wp2_with fail
        refine CC.out.mono ?_
        rintro e w1 ⟨rfl, rfl⟩
        go_wp2_with fail
        go_round
        case rel => exact ⟨j, by omega, by rw [HR.out], HN⟩
        case measure => exact HZJ.out
      | false =>
        have HN := Lib.hid (HN2.out rfl)
        have HXC := Lib.hid hxc
        clear HN1 HN2 hxc
        go_wp2_with fail
        refine CC.out.mono ?_
        rintro e w1 ⟨rfl, rfl⟩
        go_wp2_with fail
        go_ret
        exact ⟨(by first | (rw [HN.out, HSS.out]; done) | (rw [HN.out, HSS.out]; rfl)), rfl⟩
set_option maxHeartbeats 4000000 in
set_option maxRecDepth 1000000 in
theorem dTrimL_any (b : Nat) (w : World) (hs : SetD w b) (l : Bs) (hl : l.length ≤ 200000) :
    Calls Tryz.prog 89 #[.string (mkS l), .pointer (some ⟨b, 0, none⟩)] w fun e w' => e = .returned (.string (mkS (dL l))) ∧ w = w' := by
  have HS := Lib.hid hs
  clear hs
  have HC := Lib.hid (fun x w hc => Tryz.asciiSet_contains b x (dLay x) w hc)
  go_enter Tryz.func89, Tryz.ntmps89
  go_wp2_with fail
  go_loop [0] (fun v => ∃ m : Bs, m.length ≤ l.length ∧ v = .string (mkS m) ∧ Hid (dL m = dL l)) (fun v => match v with | .string s => s.size | _ => 0)
  case atStart => exact ⟨l, Nat.le_refl _, rfl, rfl⟩
  case round =>
    obtain ⟨m, hm, rfl, hall⟩ := hrel
    cases m with
    | nil =>
      have HV : Hid (dL l = []) := hall.out.symm
      have h0 : ((mkS []).size : Int) = 0 := rfl
      generalize hSS : mkS [] = S at *
      have HSS := Lib.hid hSS
      clear hSS hall
      go_wp2_with fail
      go_ret
      exact ⟨(by first | (rw [HV.out, HSS.out]; done) | (rw [HV.out, HSS.out]; rfl)), rfl⟩
    | cons c r =>
      have hjz : 0 < (mkS (c :: r)).size := by rw [mkS_size]; simp
      have hget : (mkS (c :: r))[0]'hjz = c := rfl
      have hext : (mkS (c :: r)).extract 1 (mkS (c :: r)).size = mkS r := by rw [mkS_drop]; rfl
      have CC := Lib.hid (HC.out c w (HS.out c))
      have hs0 : (0 : Int) < ((mkS (c :: r)).size : Int) := by omega
      have hz40 : (mkS (c :: r)).size ≤ 200000 := by rw [mkS_size]; omega
      have HZJ : Hid ((mkS r).size < (mkS (c :: r)).size) := by show (mkS r).size < _; rw [mkS_size, mkS_size]; simp
      have HRN : Hid (dLay c = true → dL r = dL l) := fun hc => by
        rw [← hall.out]
        show _ = (c :: r).dropWhile dLay
        rw [List.dropWhile_cons, if_pos hc]
        rfl
      have HRF : Hid (dLay c = false → dL l = c :: r) := fun hc => by
        rw [← hall.out]
        show (c :: r).dropWhile dLay = _
        rw [List.dropWhile_cons, if_neg (by rw [hc]; simp)]
      have hrl : r.length ≤ l.length := by simp at hm; omega
      clear hall hm
      generalize hSS : mkS (c :: r) = S at *
      generalize hRR : mkS r = R at *
      have HSS := Lib.hid hSS
      have HR := Lib.hid hRR
      clear hSS hRR
      generalize dLay c = bb at *
      cases bb with
      | true =>
        have HN := Lib.hid (HRN.out rfl)
        clear HRN HRF
        go_wp2_with fail
        refine CC.out.mono ?_
        rintro e w1 ⟨rfl, rfl⟩
        go_wp2_with fail
        go_round
        case rel => exact ⟨r, hrl, by rw [HR.out], HN⟩
        case measure => exact HZJ.out
      | false =>
        have HF := Lib.hid (HRF.out rfl)
        clear HRN HRF
        go_wp2_with fail
        refine CC.out.mono ?_
        rintro e w1 ⟨rfl, rfl⟩
        go_wp2_with fail
        go_ret
        exact ⟨(by first | (rw [HF.out, HSS.out]; done) | (rw [HF.out, HSS.out]; rfl)), rfl⟩
set_option maxHeartbeats 8000000 in
set_option maxRecDepth 1000000 in
theorem dTrim_any (l : Bs) (hl : l.length ≤ 200000) (w : World) :
    Calls Tryz.prog 42 #[.string (mkS l), .string (mkS dLayS)] w fun e w' => e = .returned (.string (mkS (dTrim l))) ∧ Below w.heap.size w w' := by
  have CM := Lib.hid (fun w => Tryz.strings_makeASCIISet zeroSet (mkS dLayS) w (by decide) (fun j b hb => by
    have h : ∀ c ∈ dLayS, c.toNat < 128 := by decide
    exact h b (List.mem_of_getElem? hb)))
  obtain ⟨CS, hCS⟩ : ∃ CS, CS = Lib.setCells dLayS := ⟨_, rfl⟩
  have S1 := Lib.hid (show CS.size = 256 from hCS ▸ Lib.setCells_size _)
  have S2 := Lib.hid (show CS.all (·.oneCell') = true from hCS ▸ Lib.setCells_one _)
  have S3 : Hid (∀ x : UInt8, CS[x.toNat]? = some (.bool (dLay x))) := fun x => by
    rw [hCS, Lib.setCells_at, dLay_has]
  rw [mkS_list, ← hCS] at CM
  clear hCS
  have hsc : (storeCells ⟨w.heap.size + 1, 0, none⟩ CS.toList 0).run Tryz.prog ((w.alloc (.cells CS 130)).alloc (.cells (Array.replicate 256 (.bool false)) 130)) = .ok () ((w.alloc (.cells CS 130)).alloc (.cells CS 130)) := by
    have := run_storeCells_new (P := Tryz.prog) (w.alloc (.cells CS 130)) 130 (Array.replicate 256 (.bool false)) CS (by rw [S1.out]; kernel_rfl) (by rw [S1.out, Array.size_replicate]) S2.out
    simpa using this
  have hlay : (mkS dLayS).toList.isEmpty = false := by rw [toList_cons (by decide)]
  have hone : (((mkS dLayS).size : Int) == 1) = false := by decide
  have hzs := zeroSet
  cases hl0 : l with
  | nil =>
    have hemp : (mkS ([] : Bs)).toList.isEmpty = true := by rw [isEmpty_mkS]; rfl
    generalize hSS : mkS ([] : Bs) = S at *
    have HSS := Lib.hid hSS
    clear hSS hl0 hl
    generalize mkS dLayS = LS at *
    go_enter Tryz.func42, Tryz.ntmps42
    go_wp2_with fail
    go_ret
    exact ⟨(by first | (rw [show dTrim [] = [] from rfl, HSS.out]; done) | (rw [show dTrim [] = [] from rfl, HSS.out]; rfl)), Below.refl _ _⟩
  | cons c r =>
    rw [← hl0]
    have hemp : (mkS l).toList.isEmpty = false := by rw [isEmpty_mkS, hl0]; rfl
    clear hl0 c r
    have CR := Lib.hid (fun b w hs => dTrimR_any b w hs l hl)
    generalize mkS l = S at *
    generalize mkS dLayS = LS at *
    go_enter Tryz.func42, Tryz.ntmps42
    go_wp2_with (go_at_call 88; refine (CM.out _).mono ?_; rintro e w' ⟨rfl, hw⟩; rw [hw])
    have HB : Hid (Below w.heap.size w ((w.alloc (.cells CS 130)).alloc (.cells CS 130))) := ((Below.refl _ _).alloc (Nat.le_refl _) _).alloc (by simp) _
    have HC : SetD ((w.alloc (.cells CS 130)).alloc (.cells CS 130)) (w.heap.size + 1) := fun x => by
      rw [(Blk.new' (w := w.alloc (.cells CS 130)) (g := w.heap.size + 1) (t := 130) (cs := CS) (by simp)).cell]
      exact S3.out x
    have CR1 := Lib.hid (CR.out _ _ HC)
    have HCC := Lib.hid HC
    clear hsc CM hzs HC CR
    generalize ((w.alloc (.cells CS 130)).alloc (.cells CS 130)) = w1 at *
    go_wp2_with fail
    refine CR1.out.mono ?_
    rintro e w2 ⟨rfl, rfl⟩
    have CL1 := Lib.hid (dTrimL_any (w.heap.size + 1) w1 HCC.out (dR l) (Nat.le_trans (dR_len l) hl))
    clear CR1
    go_wp2_with fail
    refine CL1.out.mono ?_
    rintro e w2 ⟨rfl, rfl⟩
    clear CL1
    go_wp2_with fail
    go_ret
    exact ⟨rfl, HB.out⟩
set_option maxHeartbeats 8000000 in
set_option maxRecDepth 1000000 in
theorem dTrimLeft_any (l : Bs) (hl : l.length ≤ 200000) (w : World) :
    Calls Tryz.prog 207 #[.string (mkS l), .string (mkS dLayS)] w fun e w' => e = .returned (.string (mkS (dL l))) ∧ Below w.heap.size w w' := by
  have CM := Lib.hid (fun w => Tryz.strings_makeASCIISet zeroSet (mkS dLayS) w (by decide) (fun j b hb => by
    have h : ∀ c ∈ dLayS, c.toNat < 128 := by decide
    exact h b (List.mem_of_getElem? hb)))
  obtain ⟨CS, hCS⟩ : ∃ CS, CS = Lib.setCells dLayS := ⟨_, rfl⟩
  have S1 := Lib.hid (show CS.size = 256 from hCS ▸ Lib.setCells_size _)
  have S2 := Lib.hid (show CS.all (·.oneCell') = true from hCS ▸ Lib.setCells_one _)
  have S3 : Hid (∀ x : UInt8, CS[x.toNat]? = some (.bool (dLay x))) := fun x => by
    rw [hCS, Lib.setCells_at, dLay_has]
  rw [mkS_list, ← hCS] at CM
  clear hCS
  have hsc : (storeCells ⟨w.heap.size + 1, 0, none⟩ CS.toList 0).run Tryz.prog ((w.alloc (.cells CS 130)).alloc (.cells (Array.replicate 256 (.bool false)) 130)) = .ok () ((w.alloc (.cells CS 130)).alloc (.cells CS 130)) := by
    have := run_storeCells_new (P := Tryz.prog) (w.alloc (.cells CS 130)) 130 (Array.replicate 256 (.bool false)) CS (by rw [S1.out]; kernel_rfl) (by rw [S1.out, Array.size_replicate]) S2.out
    simpa using this
  have hlay : (mkS dLayS).toList.isEmpty = false := by rw [toList_cons (by decide)]
  have hone : (((mkS dLayS).size : Int) == 1) = false := by decide
  have hzs := zeroSet
  cases hl0 : l with
  | nil =>
    have hemp : (mkS ([] : Bs)).toList.isEmpty = true := by rw [isEmpty_mkS]; rfl
    generalize hSS : mkS ([] : Bs) = S at *
    have HSS := Lib.hid hSS
    clear hSS hl0 hl
    generalize mkS dLayS = LS at *
    go_enter Tryz.func207, Tryz.ntmps207
    go_wp2_with fail
    go_ret
    exact ⟨(by first | (rw [show dL [] = [] from rfl, HSS.out]; done) | (rw [show dL [] = [] from rfl, HSS.out]; rfl)), Below.refl _ _⟩
  | cons c r =>
    rw [← hl0]
    have hemp : (mkS l).toList.isEmpty = false := by rw [isEmpty_mkS, hl0]; rfl
    clear hl0 c r
    have CR := Lib.hid (fun b w hs => dTrimL_any b w hs l hl)
    generalize mkS l = S at *
    generalize mkS dLayS = LS at *
    go_enter Tryz.func207, Tryz.ntmps207
    go_wp2_with (go_at_call 88; refine (CM.out _).mono ?_; rintro e w' ⟨rfl, hw⟩; rw [hw])
    have HB : Hid (Below w.heap.size w ((w.alloc (.cells CS 130)).alloc (.cells CS 130))) := ((Below.refl _ _).alloc (Nat.le_refl _) _).alloc (by simp) _
    have HC : SetD ((w.alloc (.cells CS 130)).alloc (.cells CS 130)) (w.heap.size + 1) := fun x => by
      rw [(Blk.new' (w := w.alloc (.cells CS 130)) (g := w.heap.size + 1) (t := 130) (cs := CS) (by simp)).cell]
      exact S3.out x
    have CR1 := Lib.hid (CR.out _ _ HC)
    have HCC := Lib.hid HC
    clear hsc CM hzs HC CR
    generalize ((w.alloc (.cells CS 130)).alloc (.cells CS 130)) = w1 at *
    go_wp2_with fail
    refine CR1.out.mono ?_
    rintro e w2 ⟨rfl, rfl⟩
    clear CR1
    go_wp2_with fail
    go_ret
    exact ⟨rfl, HB.out⟩
end Go.Proofs.YtdhgiammfpjniaaGreatDoor

/- strings.Clone. -/
namespace Go.Proofs.YtdhgiammfpjniaaGreatDoor
set_option linter.unusedSimpArgs false
set_option linter.unusedVariables false
open Go.RowKit

set_option maxRecDepth 100000 in
theorem clone_any (s : ByteArray) (w : World) (hs : s.size ≤ 40000) : Calls Tryz.prog 48 #[.string s] w fun e w' => e = .returned (.string s) ∧ Below w.heap.size w w' := by
  have C := Lib.hid (Tryz.stringslite_Clone s w (by omega))
  go_enter Tryz.func48, Tryz.ntmps48
  go_wp2_with fail
  refine C.out.mono ?_
  rintro e w1 ⟨rfl, hb⟩
  have HB := Lib.hid hb
  clear hb
  go_wp2_with fail
  go_ret
  exact ⟨rfl, HB.out⟩
end Go.Proofs.YtdhgiammfpjniaaGreatDoor

/- A part of a text up to some bytes: cut; the sign that a text begins with: comparison. -/
namespace Go.Proofs.YtdhgiammfpjniaaGreatDoor
set_option linter.unusedSimpArgs false
set_option linter.unusedVariables false
open Go.RowKit

def cutX (cs l : Bs) : Bs × Bs := if plainN cs l < l.length then (l.take (plainN cs l), dL (l.drop (plainN cs l))) else (l, [])
theorem cutX_len (cs l : Bs) : (cutX cs l).1.length ≤ l.length ∧ (cutX cs l).2.length ≤ l.length := by
  unfold cutX
  split
  · exact ⟨by simp; omega, by have := dL_len (l.drop (plainN cs l)); simp at this ⊢; omega⟩
  · simp
set_option maxHeartbeats 4000000 in
set_option maxRecDepth 1000000 in
theorem dCut_any {cs : Bs} (hse : Seps cs) (l : Bs) (hl : l.length ≤ 200000) (w : World) :
    Calls Tryz.prog 167 #[.string (mkS l), .string (mkS cs)] w fun e w' => e = .returned (.tuple #[.string (mkS (cutX cs l).1), .string (mkS (cutX cs l).2)]) ∧ Below w.heap.size w w' := by
  have C := Lib.hid (indexAny_any hse (mkS l) (by rw [mkS_size]; unfold maxLen; omega) w)
  rw [mkS_list] at C
  have hz : (mkS l).size = l.length := mkS_size l
  unfold anyAt at C
  unfold cutX
  by_cases h : plainN cs l < l.length
  · rw [if_pos h] at C ⊢
    have CT := Lib.hid (fun w => dTrimLeft_any (l.drop (plainN cs l)) (by simp; omega) w)
    have e1 : (mkS l).extract 0 (plainN cs l) = mkS (l.take (plainN cs l)) := mkS_take ..
    have e2 : (mkS l).extract (plainN cs l) (mkS l).size = mkS (l.drop (plainN cs l)) := mkS_drop ..
    generalize plainN cs l = n at *
    have hn : n < (mkS l).size := by omega
    have hn0 : (0 : Int) ≤ (n : Int) := by omega
    have hn1 : ¬ (n : Int) < 0 := by omega
    have hn2 : (n : Int) ≤ ((mkS l).size : Int) := by omega
    clear h hz
    show Calls _ _ _ _ (fun e w' => e = .returned (.tuple #[.string (mkS (l.take n)), .string (mkS (dL (l.drop n)))]) ∧ Below w.heap.size w w')
    generalize mkS (l.take n) = T1 at *
    generalize mkS (dL (l.drop n)) = T2 at *
    generalize mkS (l.drop n) = T3 at *
    generalize mkS l = S at *
    generalize mkS cs = CS at *
    have hlay : Hid (mkS dLayS = ⟨#[32, 9]⟩) := rfl
    rw [hlay.out] at CT
    go_enter Tryz.func167, Tryz.ntmps167
    go_wp2_with fail
    refine C.out.mono ?_
    rintro e w1 ⟨rfl, hb1⟩
    have HB := Lib.hid hb1
    clear hb1 C
    go_wp2_with fail
    go_region_with (go_at_call 207; refine (CT.out _).mono ?_; rintro e w2 ⟨rfl, hb2⟩; have HB2 : Hid (Below w.heap.size w w2) := (below_drewN' HB.out 1).trans (hb2.mono HB.out.size); clear hb2)
    all_goals go_wp2_with fail
    all_goals go_ret2
    all_goals exact ⟨rfl, HB2.out⟩
  · rw [if_neg h] at C ⊢
    clear h hz
    show Calls _ _ _ _ (fun e w' => e = .returned (.tuple #[.string (mkS l), .string (mkS [])]) ∧ Below w.heap.size w w')
    generalize mkS l = S at *
    generalize mkS cs = CS at *
    go_enter Tryz.func167, Tryz.ntmps167
    go_wp2_with fail
    refine C.out.mono ?_
    rintro e w1 ⟨rfl, hb1⟩
    have HB := Lib.hid hb1
    clear hb1 C
    go_wp2_with fail
    go_ret2
    exact ⟨rfl, HB.out⟩
end Go.Proofs.YtdhgiammfpjniaaGreatDoor
