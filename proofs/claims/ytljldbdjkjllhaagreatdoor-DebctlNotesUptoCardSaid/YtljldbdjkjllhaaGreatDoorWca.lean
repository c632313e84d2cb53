/- strings.Trim and strings.TrimLeft of blanks and bytes 9. All up to one of some bytes; a copy; a name. A part of a text up to some bytes: cut; the sign that a text begins with: comparison. The sign that a text begins with: comparison. A relation of a piece. -/
import Derived.Test.YtljldbdjkjllhaaGreatDoorWba
import Derived.StillTailTactics
import Derived.Deep.LoopGhost
import Derived.Test.YtljldbdjkjllhaaGreatDoorWab
/- strings.Trim and strings.TrimLeft of blanks and bytes 9. -/
namespace Go.Proofs.YtljldbdjkjllhaaGreatDoor
set_option linter.unusedSimpArgs false
set_option linter.unusedVariables false
open Go.RowKit

def dLay (c : UInt8) : Bool := c == 32 || c == 9
def dLayS : Bs := [32, 9]
theorem dLay_has (c : UInt8) : dLayS.contains c = dLay c := by
  unfold dLayS dLay
  simp only [List.contains_cons, List.contains_nil, Bool.or_false, Bool.or_assoc]
def dR (l : Bs) : Bs := (l.reverse.dropWhile dLay).reverse
def dL (l : Bs) : Bs := l.dropWhile dLay
def dTrim (l : Bs) : Bs := dL (dR l)
theorem dropw_all : ∀ {l : Bs}, l.all dLay = true → ∀ m : Bs, (l ++ m).dropWhile dLay = m.dropWhile dLay
  | [], _, m => rfl
  | c :: r, h, m => by
    rw [List.all_cons, Bool.and_eq_true] at h
    rw [List.cons_append, List.dropWhile_cons, if_pos h.1]
    exact dropw_all h.2 m
theorem all_rev (l : Bs) : l.reverse.all dLay = l.all dLay := by simp
theorem dR_end {l : Bs} {j : Nat} {c : UInt8} (h : (l.drop (j + 1)).all dLay = true) (hc : l[j]? = some c) (hn : dLay c = false) : dR l = l.take (j + 1) := by
  have e : l = l.take (j + 1) ++ l.drop (j + 1) := (List.take_append_drop _ _).symm
  have e2 : l.take (j + 1) = l.take j ++ [c] := by rw [List.take_add_one, hc]; rfl
  unfold dR
  have e3 : l.reverse = (l.drop (j + 1)).reverse ++ (c :: (l.take j).reverse) := by
    conv => lhs; rw [e, List.reverse_append, e2, List.reverse_append]
    rfl
  rw [e3, dropw_all (by rw [all_rev]; exact h), List.dropWhile_cons, if_neg (by rw [hn]; simp), e2]
  simp
theorem dR_none {l : Bs} (h : l.all dLay = true) : dR l = [] := by
  unfold dR
  have := dropw_all (l := l.reverse) (by rw [all_rev]; exact h) []
  rw [List.append_nil] at this
  rw [this]
  rfl
theorem dR_len (l : Bs) : (dR l).length ≤ l.length := by
  unfold dR
  rw [List.length_reverse]
  have := (List.dropWhile_suffix (l := l.reverse) dLay).length_le
  simpa using this
theorem dL_len (l : Bs) : (dL l).length ≤ l.length := (List.dropWhile_suffix (l := l) dLay).length_le
theorem dTrim_len (l : Bs) : (dTrim l).length ≤ l.length := Nat.le_trans (dL_len _) (dR_len _)
/-- A set of bytes in memory. -/
def SetD (w : World) (b : Nat) : Prop := ∀ x : UInt8, w.cell? ⟨b, x.toNat, none⟩ = some (.bool (dLay x))
set_option maxHeartbeats 4000000 in
set_option maxRecDepth 1000000 in
theorem dTrimR_any (b : Nat) (w : World) (hs : SetD w b) (l : Bs) (hl : l.length ≤ 200000) :
    Calls Tryz.prog 98 #[.string (mkS l), .pointer (some ⟨b, 0, none⟩)] w fun e w' => e = .returned (.string (mkS (dR l))) ∧ w = w' := by
  have HS := Lib.hid hs
  clear hs
  have HC := Lib.hid (fun x w hc => Tryz.asciiSet_contains b x (dLay x) w hc)
  go_enter Tryz.func98, Tryz.ntmps98
  go_wp2_with fail
  go_loop [0] (fun v => ∃ k : Nat, k ≤ l.length ∧ v = .string (mkS (l.take k)) ∧ Hid ((l.drop k).all dLay = true)) (fun v => match v with | .string s => s.size | _ => 0)
  case atStart => exact ⟨l.length, Nat.le_refl _, by rw [List.take_length], by show (l.drop l.length).all dLay = true; rw [List.drop_length]; rfl⟩
  case round =>
    obtain ⟨k, hk, rfl, hall⟩ := hrel
    have hz : (mkS (l.take k)).size = k := by rw [mkS_size, List.length_take]; omega
    cases k with
    | zero =>
      have HV : Hid (l.all dLay = true) := hall.out
      have h0 : ((mkS (l.take 0)).size : Int) = 0 := by rw [hz]; rfl
      go_wp2_with fail
      go_ret
      exact ⟨by rw [dR_none HV.out]; rfl, rfl⟩
    | succ j =>
      have hj : j < l.length := by omega
      have hjz : j < (mkS (l.take (j + 1))).size := by omega
      obtain ⟨c, hc⟩ : ∃ c, c = l[j] := ⟨_, rfl⟩
      have hget : (mkS (l.take (j + 1)))[j]'hjz = c := by
        have h1 := byte_at hjz
        rw [mkS_list, List.getElem?_take, if_pos (by omega), List.getElem?_eq_getElem hj] at h1
        injection h1 with h1
        rw [hc]; exact h1.symm
      have hext : (mkS (l.take (j + 1))).extract 0 j = mkS (l.take j) := by rw [mkS_take, List.take_take, Nat.min_eq_left (by omega)]
      have htk : l.take (j + 1) = l.take j ++ [c] := by rw [List.take_add_one, List.getElem?_eq_getElem hj, hc]; rfl
      have hdr : l.drop j = c :: l.drop (j + 1) := by rw [hc]; exact List.drop_eq_getElem_cons hj
      have HN1 : Hid (dLay c = true → (l.drop j).all dLay = true) := fun h => by have := hall.out; rw [hdr, List.all_cons, h, this]; rfl
      have HN2 : Hid (dLay c = false → dR l = l.take (j + 1)) := fun h => dR_end hall.out (by rw [List.getElem?_eq_getElem hj, hc]) h
      have HTK := Lib.hid htk
      have HZJ : Hid ((mkS (l.take j)).size < (mkS (l.take (j + 1))).size) := by show (mkS _).size < _; rw [hz, mkS_size, List.length_take]; omega
      have CC := Lib.hid (HC.out c w (HS.out c))
      have hs1 : ((mkS (l.take (j + 1))).size : Int) - 1 = (j : Int) := by rw [hz]; omega
      have hs0 : (0 : Int) < ((mkS (l.take (j + 1))).size : Int) := by rw [hz]; omega
      have hz40 : (mkS (l.take (j + 1))).size ≤ 200000 := by rw [hz]; omega
      clear hdr htk hc hz hall hj
      generalize hSS : mkS (l.take (j + 1)) = S at *
      have HSS := Lib.hid hSS
      clear hSS
      generalize hR : mkS (l.take j) = R at *
      have HR := Lib.hid hR
      clear hR
      generalize hxc : dLay c = bb at *
      cases bb with
      | true =>
        clear hxc
        have HN := Lib.hid (HN1.out rfl)
        clear HN1 HN2
        go_wp2_with fail
        refine CC.out.mono ?_
        rintro e w1 ⟨rfl, rfl⟩
        go_wp2_with fail
        go_round
        case rel => exact ⟨j, by omega, by rw [HR.out], HN⟩
        case measure => exact HZJ.out
      | false =>
        have HN := Lib.hid (HN2.out rfl)
        have HXC := Lib.hid hxc
        clear HN1 HN2 hxc
        go_wp2_with fail
        refine CC.out.mono ?_
        rintro e w1 ⟨rfl, rfl⟩
        go_wp2_with fail
        go_ret
        exact ⟨(by first | (rw [HN.out, HSS.out]; done) | (rw [HN.out, HSS.out]; rfl)), rfl⟩
set_option maxHeartbeats 4000000 in
set_option maxRecDepth 1000000 in
theorem dTrimL_any (b : Nat) (w : World) (hs : SetD w b) (l : Bs) (hl : l.length ≤ 200000) :
    Calls Tryz.prog 97 #[.string (mkS l), .pointer (some ⟨b, 0, none⟩)] w fun e w' => e = .returned (.string (mkS (dL l))) ∧ w = w' := by
  have HS := Lib.hid hs
  clear hs
  have HC := Lib.hid (fun x w hc => Tryz.asciiSet_contains b x (dLay x) w hc)
  go_enter Tryz.func97, Tryz.ntmps97
  go_wp2_with fail
  go_loop [0] (fun v => ∃ m : Bs, m.length ≤ l.length ∧ v = .string (mkS m) ∧ Hid (dL m = dL l)) (fun v => match v with | .string s => s.size | _ => 0)
  case atStart => exact ⟨l, Nat.le_refl _, rfl, rfl⟩
  case round =>
    obtain ⟨m, hm, rfl, hall⟩ := hrel
    cases m with
    | nil =>
      have HV : Hid (dL l = []) := hall.out.symm
      have h0 : ((mkS []).size : Int) = 0 := rfl
      generalize hSS : mkS [] = S at *
      have HSS := Lib.hid hSS
      clear hSS hall
      go_wp2_with fail
      go_ret
      exact ⟨(by first | (rw [HV.out, HSS.out]; done) | (rw [HV.out, HSS.out]; rfl)), rfl⟩
    | cons c r =>
      have hjz : 0 < (mkS (c :: r)).size := by rw [mkS_size]; simp
      have hget : (mkS (c :: r))[0]'hjz = c := rfl
      have hext : (mkS (c :: r)).extract 1 (mkS (c :: r)).size = mkS r := by rw [mkS_drop]; rfl
      have CC := Lib.hid (HC.out c w (HS.out c))
      have hs0 : (0 : Int) < ((mkS (c :: r)).size : Int) := by omega
      have hz40 : (mkS (c :: r)).size ≤ 200000 := by rw [mkS_size]; omega
      have HZJ : Hid ((mkS r).size < (mkS (c :: r)).size) := by show (mkS r).size < _; rw [mkS_size, mkS_size]; simp
      have HRN : Hid (dLay c = true → dL r = dL l) := fun hc => by
        rw [← hall.out]
        show _ = (c :: r).dropWhile dLay
        rw [List.dropWhile_cons, if_pos hc]
        rfl
      have HRF : Hid (dLay c = false → dL l = c :: r) := fun hc => by
        rw [← hall.out]
        show (c :: r).dropWhile dLay = _
        rw [List.dropWhile_cons, if_neg (by rw [hc]; simp)]
      have hrl : r.length ≤ l.length := by simp at hm; omega
      clear hall hm
      generalize hSS : mkS (c :: r) = S at *
      generalize hRR : mkS r = R at *
      have HSS := Lib.hid hSS
      have HR := Lib.hid hRR
      clear hSS hRR
      generalize dLay c = bb at *
      cases bb with
      | true =>
        have HN := Lib.hid (HRN.out rfl)
        clear HRN HRF
        go_wp2_with fail
        refine CC.out.mono ?_
        rintro e w1 ⟨rfl, rfl⟩
        go_wp2_with fail
        go_round
        case rel => exact ⟨r, hrl, by rw [HR.out], HN⟩
        case measure => exact HZJ.out
      | false =>
        have HF := Lib.hid (HRF.out rfl)
        clear HRN HRF
        go_wp2_with fail
        refine CC.out.mono ?_
        rintro e w1 ⟨rfl, rfl⟩
        go_wp2_with fail
        go_ret
        exact ⟨(by first | (rw [HF.out, HSS.out]; done) | (rw [HF.out, HSS.out]; rfl)), rfl⟩
set_option maxHeartbeats 8000000 in
set_option maxRecDepth 1000000 in
theorem dTrim_any (l : Bs) (hl : l.length ≤ 200000) (w : World) :
    Calls Tryz.prog 54 #[.string (mkS l), .string (mkS dLayS)] w fun e w' => e = .returned (.string (mkS (dTrim l))) ∧ Below w.heap.size w w' := by
  have CM := Lib.hid (fun w => Tryz.strings_makeASCIISet zeroSet (mkS dLayS) w (by decide) (fun j b hb => by
    have h : ∀ c ∈ dLayS, c.toNat < 128 := by decide
    exact h b (List.mem_of_getElem? hb)))
  obtain ⟨CS, hCS⟩ : ∃ CS, CS = Lib.setCells dLayS := ⟨_, rfl⟩
  have S1 := Lib.hid (show CS.size = 256 from hCS ▸ Lib.setCells_size _)
  have S2 := Lib.hid (show CS.all (·.oneCell') = true from hCS ▸ Lib.setCells_one _)
  have S3 : Hid (∀ x : UInt8, CS[x.toNat]? = some (.bool (dLay x))) := fun x => by
    rw [hCS, Lib.setCells_at, dLay_has]
  rw [mkS_list, ← hCS] at CM
  clear hCS
  have hsc : (storeCells ⟨w.heap.size + 1, 0, none⟩ CS.toList 0).run Tryz.prog ((w.alloc (.cells CS 147)).alloc (.cells (Array.replicate 256 (.bool false)) 147)) = .ok () ((w.alloc (.cells CS 147)).alloc (.cells CS 147)) := by
    have := run_storeCells_new (P := Tryz.prog) (w.alloc (.cells CS 147)) 147 (Array.replicate 256 (.bool false)) CS (by rw [S1.out]; kernel_rfl) (by rw [S1.out, Array.size_replicate]) S2.out
    simpa using this
  have hlay : (mkS dLayS).toList.isEmpty = false := by rw [toList_cons (by decide)]
  have hone : (((mkS dLayS).size : Int) == 1) = false := by decide
  have hzs := zeroSet
  cases hl0 : l with
  | nil =>
    have hemp : (mkS ([] : Bs)).toList.isEmpty = true := by rw [isEmpty_mkS]; rfl
    generalize hSS : mkS ([] : Bs) = S at *
    have HSS := Lib.hid hSS
    clear hSS hl0 hl
    generalize mkS dLayS = LS at *
    go_enter Tryz.func54, Tryz.ntmps54
    go_wp2_with fail
    go_ret
    exact ⟨(by first | (rw [show dTrim [] = [] from rfl, HSS.out]; done) | (rw [show dTrim [] = [] from rfl, HSS.out]; rfl)), Below.refl _ _⟩
  | cons c r =>
    rw [← hl0]
    have hemp : (mkS l).toList.isEmpty = false := by rw [isEmpty_mkS, hl0]; rfl
    clear hl0 c r
    have CR := Lib.hid (fun b w hs => dTrimR_any b w hs l hl)
    generalize mkS l = S at *
    generalize mkS dLayS = LS at *
    go_enter Tryz.func54, Tryz.ntmps54
    go_wp2_with (go_at_call 96; refine (CM.out _).mono ?_; rintro e w' ⟨rfl, hw⟩; rw [hw])
    have HB : Hid (Below w.heap.size w ((w.alloc (.cells CS 147)).alloc (.cells CS 147))) := ((Below.refl _ _).alloc (Nat.le_refl _) _).alloc (by simp) _
    have HC : SetD ((w.alloc (.cells CS 147)).alloc (.cells CS 147)) (w.heap.size + 1) := fun x => by
      rw [(Blk.new' (w := w.alloc (.cells CS 147)) (g := w.heap.size + 1) (t := 147) (cs := CS) (by simp)).cell]
      exact S3.out x
    have CR1 := Lib.hid (CR.out _ _ HC)
    have HCC := Lib.hid HC
    clear hsc CM hzs HC CR
    generalize ((w.alloc (.cells CS 147)).alloc (.cells CS 147)) = w1 at *
    go_wp2_with fail
    refine CR1.out.mono ?_
    rintro e w2 ⟨rfl, rfl⟩
    have CL1 := Lib.hid (dTrimL_any (w.heap.size + 1) w1 HCC.out (dR l) (Nat.le_trans (dR_len l) hl))
    clear CR1
    go_wp2_with fail
    refine CL1.out.mono ?_
    rintro e w2 ⟨rfl, rfl⟩
    clear CL1
    go_wp2_with fail
    go_ret
    exact ⟨rfl, HB.out⟩
set_option maxHeartbeats 8000000 in
set_option maxRecDepth 1000000 in
theorem dTrimLeft_any (l : Bs) (hl : l.length ≤ 200000) (w : World) :
    Calls Tryz.prog 225 #[.string (mkS l), .string (mkS dLayS)] w fun e w' => e = .returned (.string (mkS (dL l))) ∧ Below w.heap.size w w' := by
  have CM := Lib.hid (fun w => Tryz.strings_makeASCIISet zeroSet (mkS dLayS) w (by decide) (fun j b hb => by
    have h : ∀ c ∈ dLayS, c.toNat < 128 := by decide
    exact h b (List.mem_of_getElem? hb)))
  obtain ⟨CS, hCS⟩ : ∃ CS, CS = Lib.setCells dLayS := ⟨_, rfl⟩
  have S1 := Lib.hid (show CS.size = 256 from hCS ▸ Lib.setCells_size _)
  have S2 := Lib.hid (show CS.all (·.oneCell') = true from hCS ▸ Lib.setCells_one _)
  have S3 : Hid (∀ x : UInt8, CS[x.toNat]? = some (.bool (dLay x))) := fun x => by
    rw [hCS, Lib.setCells_at, dLay_has]
  rw [mkS_list, ← hCS] at CM
  clear hCS
  have hsc : (storeCells ⟨w.heap.size + 1, 0, none⟩ CS.toList 0).run Tryz.prog ((w.alloc (.cells CS 147)).alloc (.cells (Array.replicate 256 (.bool false)) 147)) = .ok () ((w.alloc (.cells CS 147)).alloc (.cells CS 147)) := by
    have := run_storeCells_new (P := Tryz.prog) (w.alloc (.cells CS 147)) 147 (Array.replicate 256 (.bool false)) CS (by rw [S1.out]; kernel_rfl) (by rw [S1.out, Array.size_replicate]) S2.out
    simpa using this
  have hlay : (mkS dLayS).toList.isEmpty = false := by rw [toList_cons (by decide)]
  have hone : (((mkS dLayS).size : Int) == 1) = false := by decide
  have hzs := zeroSet
  cases hl0 : l with
  | nil =>
    have hemp : (mkS ([] : Bs)).toList.isEmpty = true := by rw [isEmpty_mkS]; rfl
    generalize hSS : mkS ([] : Bs) = S at *
    have HSS := Lib.hid hSS
    clear hSS hl0 hl
    generalize mkS dLayS = LS at *
    go_enter Tryz.func225, Tryz.ntmps225
    go_wp2_with fail
    go_ret
    exact ⟨(by first | (rw [show dL [] = [] from rfl, HSS.out]; done) | (rw [show dL [] = [] from rfl, HSS.out]; rfl)), Below.refl _ _⟩
  | cons c r =>
    rw [← hl0]
    have hemp : (mkS l).toList.isEmpty = false := by rw [isEmpty_mkS, hl0]; rfl
    clear hl0 c r
    have CR := Lib.hid (fun b w hs => dTrimL_any b w hs l hl)
    generalize mkS l = S at *
    generalize mkS dLayS = LS at *
    go_enter Tryz.func225, Tryz.ntmps225
    go_wp2_with (go_at_call 96; refine (CM.out _).mono ?_; rintro e w' ⟨rfl, hw⟩; rw [hw])
    have HB : Hid (Below w.heap.size w ((w.alloc (.cells CS 147)).alloc (.cells CS 147))) := ((Below.refl _ _).alloc (Nat.le_refl _) _).alloc (by simp) _
    have HC : SetD ((w.alloc (.cells CS 147)).alloc (.cells CS 147)) (w.heap.size + 1) := fun x => by
      rw [(Blk.new' (w := w.alloc (.cells CS 147)) (g := w.heap.size + 1) (t := 147) (cs := CS) (by simp)).cell]
      exact S3.out x
    have CR1 := Lib.hid (CR.out _ _ HC)
    have HCC := Lib.hid HC
    clear hsc CM hzs HC CR
    generalize ((w.alloc (.cells CS 147)).alloc (.cells CS 147)) = w1 at *
    go_wp2_with fail
    refine CR1.out.mono ?_
    rintro e w2 ⟨rfl, rfl⟩
    clear CR1
    go_wp2_with fail
    go_ret
    exact ⟨rfl, HB.out⟩
end Go.Proofs.YtljldbdjkjllhaaGreatDoor

/- All up to one of some bytes; a copy; a name. -/
namespace Go.Proofs.YtljldbdjkjllhaaGreatDoor
set_option linter.unusedSimpArgs false
set_option linter.unusedVariables false
open Go.RowKit

section
variable {w : World} {B g : Nat} {r : Bs} {v1 v2 v3 v4 : Value}
theorem RdB.later {w' : World} (h : RdB w g r v1 v2 v3 v4) (hb : Below w.heap.size w w') : RdB w' g r v1 v2 v3 v4 ∧ Turned [g] w w' := ⟨h.below hb, Turned.of_below hb _⟩
set_option maxHeartbeats 1000000 in
set_option maxRecDepth 100000 in
theorem plain_any (h : RdB w g r v1 v2 v3 v4) (hr : r.length ≤ 40000) {cs : Bs} (hs : Seps cs) :
    Calls Tryz.prog 154 #[.pointer (some ⟨g, 0, none⟩), .string (mkS cs)] w (Ate w g v1 v2 v3 v4 (plainR cs r) sV) := by
  have C := Lib.hid (indexAny_any hs (mkS r) (by rw [mkS_size]; unfold maxLen; omega) w)
  rw [show (mkS r).data.toList = r from rfl] at C
  have hle : plainN cs r ≤ r.length := while_le r
  have CT := Lib.hid (fun w' (h' : RdB w' g r v1 v2 v3 v4) => take_any h' (plainN cs r) hle hr)
  have HR := Lib.hid h
  have HE : Hid (plainR cs r = takeR (plainN cs r) r) := rfl
  have hsz : (mkS r).size = r.length := rfl
  have c0 := Blk.cell h 0
  simp at c0
  clear h hs
  have hat : (anyAt cs r = (plainN cs r : Int)) ∨ (anyAt cs r = -1 ∧ (plainN cs r : Int) = ((mkS r).size : Int)) := by
    unfold anyAt
    split
    · exact .inl rfl
    · exact .inr ⟨rfl, by rw [hsz]; omega⟩
  clear hr hle hsz
  generalize plainR cs r = res at *
  generalize plainN cs r = n at *
  generalize anyAt cs r = m at *
  rcases hat with rfl | ⟨rfl, hn⟩
  · clear c0
    have c0 := Blk.cell HR.out 0
    simp at c0
    go_enter Tryz.func154, Tryz.ntmps154
    go_wp2_with fail
    refine C.out.mono ?_
    rintro e w1 ⟨rfl, hb⟩
    obtain ⟨h1, h2⟩ := RdB.later HR.out hb
    have H2 := Lib.hid h2
    have CT1 := Lib.hid (CT.out _ h1)
    have c1 := Blk.cell h1 0
    simp at c1
    clear h1 h2 hb C CT c0
    go_wp2_with fail
    refine CT1.out.mono ?_
    intro e w3 ha
    obtain ⟨ht, r', hr', ⟨a, hax, rfl⟩ | ⟨k, hk, rfl⟩⟩ := ha
    · have HV : Hid (Ate w g v1 v2 v3 v4 res sV (.returned (sV a)) w3) := Ate.mkOk (H2.out.trans ht (frG _ _)) hr' (HE.out.trans hax)
      clear ht hr' hax
      unfold sV at *
      go_wp2_with fail
      go_ret
      exact HV.out
    · have HV : Hid (Ate w g v1 v2 v3 v4 res sV (gaveUp k) w3) := Ate.mkNo (H2.out.trans ht (frG _ _)) hr' (HE.out.trans hk)
      clear ht hr' hk
      unfold gaveUp
      go_wp2_with fail
      exact ⟨rfl, HV.out⟩
  · have HN := Lib.hid hn
    clear hn
    rw [HN.out] at CT
    go_enter Tryz.func154, Tryz.ntmps154
    go_wp2_with fail
    refine C.out.mono ?_
    rintro e w1 ⟨rfl, hb⟩
    obtain ⟨h1, h2⟩ := RdB.later HR.out hb
    have H2 := Lib.hid h2
    have CT1 := Lib.hid (CT.out _ h1)
    have c1 := Blk.cell h1 0
    simp at c1
    clear h1 h2 hb C CT c0
    go_wp2_with fail
    refine CT1.out.mono ?_
    intro e w3 ha
    obtain ⟨ht, r', hr', ⟨a, hax, rfl⟩ | ⟨k, hk, rfl⟩⟩ := ha
    · have HV : Hid (Ate w g v1 v2 v3 v4 res sV (.returned (sV a)) w3) := Ate.mkOk (H2.out.trans ht (frG _ _)) hr' (HE.out.trans hax)
      clear ht hr' hax
      unfold sV at *
      go_wp2_with fail
      go_ret
      exact HV.out
    · have HV : Hid (Ate w g v1 v2 v3 v4 res sV (gaveUp k) w3) := Ate.mkNo (H2.out.trans ht (frG _ _)) hr' (HE.out.trans hk)
      clear ht hr' hk
      unfold gaveUp
      go_wp2_with fail
      exact ⟨rfl, HV.out⟩
set_option maxRecDepth 100000 in
theorem clone_any (s : ByteArray) (w : World) (hs : s.size ≤ 40000) : Calls Tryz.prog 46 #[.string s] w fun e w' => e = .returned (.string s) ∧ Below w.heap.size w w' := by
  have C := Lib.hid (Tryz.stringslite_Clone s w (by omega))
  go_enter Tryz.func46, Tryz.ntmps46
  go_wp2_with fail
  refine C.out.mono ?_
  rintro e w1 ⟨rfl, hb⟩
  have HB := Lib.hid hb
  clear hb
  go_wp2_with fail
  go_ret
  exact ⟨rfl, HB.out⟩
theorem name_may (c : UInt8) (h : xOf c = true) : xMay c = true := by
  have h2 : ∀ n : Fin 256, xOf (UInt8.ofNat n.1) = true → xMay (UInt8.ofNat n.1) = true := by decide +kernel
  have := h2 ⟨c.toNat, c.toNat_lt⟩
  simp at this
  exact this h
theorem while_may (l : Bs) : (l.takeWhile xOf).all xMay = true := List.all_eq_true.2 fun c hc => name_may c (List.all_eq_true.1 (while_all (p := xOf) l) c hc)
/-- The second half: how many bytes are known. -/
theorem nameN_first {r : Bs} (c : UInt8) (hc : r[0]? = some c) : nameN r = if xFirst c = true then (r.takeWhile xOf).length else 0 := by
  cases r with
  | nil => cases hc
  | cons b t => injection hc with hc; subst hc; rfl
end
end Go.Proofs.YtljldbdjkjllhaaGreatDoor

/- A part of a text up to some bytes: cut; the sign that a text begins with: comparison. -/
namespace Go.Proofs.YtljldbdjkjllhaaGreatDoor
set_option linter.unusedSimpArgs false
set_option linter.unusedVariables false
open Go.RowKit

def cutX (cs l : Bs) : Bs × Bs := if plainN cs l < l.length then (l.take (plainN cs l), dL (l.drop (plainN cs l))) else (l, [])
theorem cutX_len (cs l : Bs) : (cutX cs l).1.length ≤ l.length ∧ (cutX cs l).2.length ≤ l.length := by
  unfold cutX
  split
  · exact ⟨by simp; omega, by have := dL_len (l.drop (plainN cs l)); simp at this ⊢; omega⟩
  · simp
set_option maxHeartbeats 4000000 in
set_option maxRecDepth 1000000 in
theorem dCut_any {cs : Bs} (hse : Seps cs) (l : Bs) (hl : l.length ≤ 200000) (w : World) :
    Calls Tryz.prog 172 #[.string (mkS l), .string (mkS cs)] w fun e w' => e = .returned (.tuple #[.string (mkS (cutX cs l).1), .string (mkS (cutX cs l).2)]) ∧ Below w.heap.size w w' := by
  have C := Lib.hid (indexAny_any hse (mkS l) (by rw [mkS_size]; unfold maxLen; omega) w)
  rw [mkS_list] at C
  have hz : (mkS l).size = l.length := mkS_size l
  unfold anyAt at C
  unfold cutX
  by_cases h : plainN cs l < l.length
  · rw [if_pos h] at C ⊢
    have CT := Lib.hid (fun w => dTrimLeft_any (l.drop (plainN cs l)) (by simp; omega) w)
    have e1 : (mkS l).extract 0 (plainN cs l) = mkS (l.take (plainN cs l)) := mkS_take ..
    have e2 : (mkS l).extract (plainN cs l) (mkS l).size = mkS (l.drop (plainN cs l)) := mkS_drop ..
    generalize plainN cs l = n at *
    have hn : n < (mkS l).size := by omega
    have hn0 : (0 : Int) ≤ (n : Int) := by omega
    have hn1 : ¬ (n : Int) < 0 := by omega
    have hn2 : (n : Int) ≤ ((mkS l).size : Int) := by omega
    clear h hz
    show Calls _ _ _ _ (fun e w' => e = .returned (.tuple #[.string (mkS (l.take n)), .string (mkS (dL (l.drop n)))]) ∧ Below w.heap.size w w')
    generalize mkS (l.take n) = T1 at *
    generalize mkS (dL (l.drop n)) = T2 at *
    generalize mkS (l.drop n) = T3 at *
    generalize mkS l = S at *
    generalize mkS cs = CS at *
    have hlay : Hid (mkS dLayS = ⟨#[32, 9]⟩) := rfl
    rw [hlay.out] at CT
    go_enter Tryz.func172, Tryz.ntmps172
    go_wp2_with fail
    refine C.out.mono ?_
    rintro e w1 ⟨rfl, hb1⟩
    have HB := Lib.hid hb1
    clear hb1 C
    go_wp2_with fail
    go_region_with (go_at_call 225; refine (CT.out _).mono ?_; rintro e w2 ⟨rfl, hb2⟩; have HB2 : Hid (Below w.heap.size w w2) := (below_drewN' HB.out 1).trans (hb2.mono HB.out.size); clear hb2)
    all_goals go_wp2_with fail
    all_goals go_ret2
    all_goals exact ⟨rfl, HB2.out⟩
  · rw [if_neg h] at C ⊢
    clear h hz
    show Calls _ _ _ _ (fun e w' => e = .returned (.tuple #[.string (mkS l), .string (mkS [])]) ∧ Below w.heap.size w w')
    generalize mkS l = S at *
    generalize mkS cs = CS at *
    go_enter Tryz.func172, Tryz.ntmps172
    go_wp2_with fail
    refine C.out.mono ?_
    rintro e w1 ⟨rfl, hb1⟩
    have HB := Lib.hid hb1
    clear hb1 C
    go_wp2_with fail
    go_ret2
    exact ⟨rfl, HB.out⟩
end Go.Proofs.YtljldbdjkjllhaaGreatDoor

/- The sign that a text begins with: comparison. -/
namespace Go.Proofs.YtljldbdjkjllhaaGreatDoor
set_option linter.unusedSimpArgs false
set_option linter.unusedVariables false
open Go.RowKit

def sgs : List Bs := [[], [60, 60], [61], [60, 61], [62, 62], [], [62, 61], []]
def sgCs : Array Value := #[.string ⟨#[]⟩, .string ⟨#[60, 60]⟩, .string ⟨#[61]⟩, .string ⟨#[60, 61]⟩, .string ⟨#[62, 62]⟩, .string ⟨#[]⟩, .string ⟨#[62, 61]⟩, .string ⟨#[]⟩]
def SgnAt (w : World) : Prop := ∃ t, Blk w 4 t sgCs
theorem SgnAt.turned {w w' : World} {F : List Nat} (h : SgnAt w) (ht : Turned F w w') (hF : 4 ∉ F) : SgnAt w' := by
  obtain ⟨t, h⟩ := h
  exact ⟨t, h.turned ht hF⟩
theorem SgnAt.below' {w w' : World} (h : SgnAt w) (hb : Below w.heap.size w w') : SgnAt w' := h.turned (Turned.of_below hb []) (by simp)
def compF (t : Bs) : List Bs → Nat → Int × Bs
  | [], _ => (0, t)
  | s :: r, i => if Lib.hasPrefix t s = true ∧ s ≠ [] then ((i : Int), dL (Lib.trimPrefix t s)) else compF t r (i + 1)
def compX (l : Bs) : Int × Bs := compF (dL l) sgs 0
theorem compF_len (t : Bs) : ∀ (l : List Bs) (i : Nat), (compF t l i).2.length ≤ t.length
  | [], _ => Nat.le_refl _
  | s :: r, i => by
    unfold compF
    split
    · exact Nat.le_trans (dL_len _) (trim_len t s)
    · exact compF_len t r (i + 1)
theorem compX_len (l : Bs) : (compX l).2.length ≤ l.length := Nat.le_trans (compF_len _ _ _) (dL_len _)
set_option maxHeartbeats 8000000 in
set_option maxRecDepth 1000000 in
theorem comparison_any (l : Bs) (hl : l.length ≤ 200000) (w : World) (hS : SgnAt w) :
    Calls Tryz.prog 173 #[.string (mkS l)] w fun e w' => e = .returned (.tuple #[.int .i64 (compX l).1, .string (mkS (compX l).2)]) ∧ Below w.heap.size w w' := by
  have C := Lib.hid (dTrimLeft_any l hl w)
  have HS := Lib.hid hS
  obtain ⟨t, ht⟩ : ∃ t, t = dL l := ⟨_, rfl⟩
  have htl : t.length ≤ 200000 := by rw [ht]; exact Nat.le_trans (dL_len l) hl
  have HX : Hid (compX l = compF t sgs 0) := by show compF (dL l) sgs 0 = _; rw [ht]
  rw [← ht] at C
  generalize compX l = X at *
  obtain ⟨Xn, Xb⟩ := X
  have CT := Lib.hid (fun (s : Bs) (w : World) => dTrimLeft_any (Lib.trimPrefix t s) (Nat.le_trans (trim_len t s) htl) w)
  have CP := Lib.hid (fun (s : Bs) (w : World) => Tryz.strings_CutPrefix (mkS t) (mkS s) w)
  simp only [mkS_list] at CP
  have hlay : Hid (mkS dLayS = ⟨#[32, 9]⟩) := rfl
  rw [hlay.out] at CT C
  clear ht hS hl htl hlay
  have ix0 : ∀ w, (Instr.index 161 (.agg #[.string ⟨#[]⟩, .string ⟨#[60, 60]⟩, .string ⟨#[61]⟩, .string ⟨#[60, 61]⟩, .string ⟨#[62, 62]⟩, .string ⟨#[]⟩, .string ⟨#[62, 61]⟩, .string ⟨#[]⟩]) (.int .i64 0)).run Tryz.prog w = .ok (.string ⟨#[]⟩) w := fun _ => by kernel_rfl
  have ix1 : ∀ w, (Instr.index 161 (.agg #[.string ⟨#[]⟩, .string ⟨#[60, 60]⟩, .string ⟨#[61]⟩, .string ⟨#[60, 61]⟩, .string ⟨#[62, 62]⟩, .string ⟨#[]⟩, .string ⟨#[62, 61]⟩, .string ⟨#[]⟩]) (.int .i64 1)).run Tryz.prog w = .ok (.string ⟨#[60, 60]⟩) w := fun _ => by kernel_rfl
  have ix2 : ∀ w, (Instr.index 161 (.agg #[.string ⟨#[]⟩, .string ⟨#[60, 60]⟩, .string ⟨#[61]⟩, .string ⟨#[60, 61]⟩, .string ⟨#[62, 62]⟩, .string ⟨#[]⟩, .string ⟨#[62, 61]⟩, .string ⟨#[]⟩]) (.int .i64 2)).run Tryz.prog w = .ok (.string ⟨#[61]⟩) w := fun _ => by kernel_rfl
  have ix3 : ∀ w, (Instr.index 161 (.agg #[.string ⟨#[]⟩, .string ⟨#[60, 60]⟩, .string ⟨#[61]⟩, .string ⟨#[60, 61]⟩, .string ⟨#[62, 62]⟩, .string ⟨#[]⟩, .string ⟨#[62, 61]⟩, .string ⟨#[]⟩]) (.int .i64 3)).run Tryz.prog w = .ok (.string ⟨#[60, 61]⟩) w := fun _ => by kernel_rfl
  have ix4 : ∀ w, (Instr.index 161 (.agg #[.string ⟨#[]⟩, .string ⟨#[60, 60]⟩, .string ⟨#[61]⟩, .string ⟨#[60, 61]⟩, .string ⟨#[62, 62]⟩, .string ⟨#[]⟩, .string ⟨#[62, 61]⟩, .string ⟨#[]⟩]) (.int .i64 4)).run Tryz.prog w = .ok (.string ⟨#[62, 62]⟩) w := fun _ => by kernel_rfl
  have ix5 : ∀ w, (Instr.index 161 (.agg #[.string ⟨#[]⟩, .string ⟨#[60, 60]⟩, .string ⟨#[61]⟩, .string ⟨#[60, 61]⟩, .string ⟨#[62, 62]⟩, .string ⟨#[]⟩, .string ⟨#[62, 61]⟩, .string ⟨#[]⟩]) (.int .i64 5)).run Tryz.prog w = .ok (.string ⟨#[]⟩) w := fun _ => by kernel_rfl
  have ix6 : ∀ w, (Instr.index 161 (.agg #[.string ⟨#[]⟩, .string ⟨#[60, 60]⟩, .string ⟨#[61]⟩, .string ⟨#[60, 61]⟩, .string ⟨#[62, 62]⟩, .string ⟨#[]⟩, .string ⟨#[62, 61]⟩, .string ⟨#[]⟩]) (.int .i64 6)).run Tryz.prog w = .ok (.string ⟨#[62, 61]⟩) w := fun _ => by kernel_rfl
  have ix7 : ∀ w, (Instr.index 161 (.agg #[.string ⟨#[]⟩, .string ⟨#[60, 60]⟩, .string ⟨#[61]⟩, .string ⟨#[60, 61]⟩, .string ⟨#[62, 62]⟩, .string ⟨#[]⟩, .string ⟨#[62, 61]⟩, .string ⟨#[]⟩]) (.int .i64 7)).run Tryz.prog w = .ok (.string ⟨#[]⟩) w := fun _ => by kernel_rfl
  have tn0 : ((⟨#[]⟩ : ByteArray).toList != ([] : List UInt8)) = false := by decide +kernel
  have tn1 : ((⟨#[60, 60]⟩ : ByteArray).toList != ([] : List UInt8)) = true := by decide +kernel
  have tn2 : ((⟨#[61]⟩ : ByteArray).toList != ([] : List UInt8)) = true := by decide +kernel
  have tn3 : ((⟨#[60, 61]⟩ : ByteArray).toList != ([] : List UInt8)) = true := by decide +kernel
  have tn4 : ((⟨#[62, 62]⟩ : ByteArray).toList != ([] : List UInt8)) = true := by decide +kernel
  have tn5 : ((⟨#[]⟩ : ByteArray).toList != ([] : List UInt8)) = false := by decide +kernel
  have tn6 : ((⟨#[62, 61]⟩ : ByteArray).toList != ([] : List UInt8)) = true := by decide +kernel
  have tn7 : ((⟨#[]⟩ : ByteArray).toList != ([] : List UInt8)) = false := by decide +kernel
  generalize mkS l = L at *
  go_enter Tryz.func173, Tryz.ntmps173
  go_wp2_with fail
  refine C.out.mono ?_
  rintro e w1 ⟨rfl, hb1⟩
  have HB := Lib.hid hb1
  obtain ⟨t0, hB⟩ := HS.out.below' hb1
  have c0 := hB.cell 0
  have c1 := hB.cell 1
  have c2 := hB.cell 2
  have c3 := hB.cell 3
  have c4 := hB.cell 4
  have c5 := hB.cell 5
  have c6 := hB.cell 6
  have c7 := hB.cell 7
  unfold sgCs at c0 c1 c2 c3 c4 c5 c6 c7
  simp at c0 c1 c2 c3 c4 c5 c6 c7
  clear hB hb1 C HS
  go_wp2_with fail
  clear c0 c1 c2 c3 c4 c5 c6 c7
  go_loopg [4, 5, 6, 7, 11] 8 (fun gk v4 v5 v6 v7 v11 wx => ∃ k : Nat, k + gk = 8 ∧ v11 = .int .i64 (k : Int) ∧ Hid ((Xn, Xb) = compF t (sgs.drop k) k) ∧ Hid (Below w.heap.size w wx))
  case atStart => exact ⟨0, by omega, rfl, HX, HB⟩
  case round =>
    obtain ⟨k, hkg, rfl, HN, HBr⟩ := hrel
    have hk' : k = 0 ∨ k = 1 ∨ k = 2 ∨ k = 3 ∨ k = 4 ∨ k = 5 ∨ k = 6 ∨ k = 7 ∨ k = 8 := by omega
    have HKG := Lib.hid hkg
    clear hkg HX HB
    rcases hk' with rfl | rfl | rfl | rfl | rfl | rfl | rfl | rfl | rfl
    · clear ix1 tn1 ix2 tn2 ix3 tn3 ix4 tn4 ix5 tn5 ix6 tn6 ix7 tn7
      have CPi := Lib.hid (CP.out [] )
      have HV : Hid ((Xn, Xb) = compF t (sgs.drop 1) 1) := HN.out.trans (if_neg (fun h => h.2 rfl))
      have hq : (mkS ([] : Bs)) = ⟨#[]⟩ := rfl
      rw [hq] at CPi
      clear CP CT HN hq
      generalize Lib.hasPrefix t [] = hp at *
      cases hp with
      | true =>
        go_wp2_with fail
        refine (CPi.out _).mono ?_
        rintro e w2 ⟨rfl, rfl⟩
        clear CPi
        go_wp2_with fail
        go_roundg (gk - 1)
        case measure => have := HKG.out; omega
        case rel => exact ⟨1, by have := HKG.out; omega, rfl, HV, HBr⟩
      | false =>
        go_wp2_with fail
        refine (CPi.out _).mono ?_
        rintro e w2 ⟨rfl, rfl⟩
        clear CPi
        go_wp2_with fail
        go_roundg (gk - 1)
        case measure => have := HKG.out; omega
        case rel => exact ⟨1, by have := HKG.out; omega, rfl, HV, HBr⟩
    · clear ix0 tn0 ix2 tn2 ix3 tn3 ix4 tn4 ix5 tn5 ix6 tn6 ix7 tn7
      have CPi := Lib.hid (CP.out [60, 60])
      have CTi := Lib.hid (CT.out [60, 60])
      have HV0 : Hid (Lib.hasPrefix t [60, 60] = false → (Xn, Xb) = compF t (sgs.drop 2) 2) := fun h => HN.out.trans (if_neg (fun h2 => by rw [h] at h2; exact absurd h2.1 (by simp)))
      have HV1 : Hid (Lib.hasPrefix t [60, 60] = true → (Xn, Xb) = ((1 : Int), dL (Lib.trimPrefix t [60, 60]))) := fun h => HN.out.trans (if_pos ⟨h, by simp⟩)
      have hq : (mkS ([60, 60] : Bs)) = ⟨#[60, 60]⟩ := rfl
      rw [hq] at CPi
      clear CP CT HN hq
      generalize Lib.hasPrefix t [60, 60] = hp at *
      cases hp with
      | true =>
        have HV := Lib.hid (HV1.out rfl)
        clear HV0 HV1
        go_wp2_with fail
        refine (CPi.out _).mono ?_
        rintro e w2 ⟨rfl, rfl⟩
        clear CPi
        go_wp2_with fail
        refine (CTi.out _).mono ?_
        rintro e w3 ⟨rfl, hb3⟩
        have HB3 := Lib.hid (HBr.out.trans (hb3.mono HBr.out.size))
        clear hb3 CTi
        go_wp2_with fail
        go_ret2
        have h1 := HV.out
        injection h1 with h1 h2
        exact ⟨by rw [h1, h2]; rfl, HB3.out⟩
      | false =>
        have HV := Lib.hid (HV0.out rfl)
        clear HV0 HV1 CTi
        go_wp2_with fail
        refine (CPi.out _).mono ?_
        rintro e w2 ⟨rfl, rfl⟩
        clear CPi
        go_wp2_with fail
        go_roundg (gk - 1)
        case measure => have := HKG.out; omega
        case rel => exact ⟨2, by have := HKG.out; omega, rfl, HV, HBr⟩
    · clear ix0 tn0 ix1 tn1 ix3 tn3 ix4 tn4 ix5 tn5 ix6 tn6 ix7 tn7
      have CPi := Lib.hid (CP.out [61])
      have CTi := Lib.hid (CT.out [61])
      have HV0 : Hid (Lib.hasPrefix t [61] = false → (Xn, Xb) = compF t (sgs.drop 3) 3) := fun h => HN.out.trans (if_neg (fun h2 => by rw [h] at h2; exact absurd h2.1 (by simp)))
      have HV1 : Hid (Lib.hasPrefix t [61] = true → (Xn, Xb) = ((2 : Int), dL (Lib.trimPrefix t [61]))) := fun h => HN.out.trans (if_pos ⟨h, by simp⟩)
      have hq : (mkS ([61] : Bs)) = ⟨#[61]⟩ := rfl
      rw [hq] at CPi
      clear CP CT HN hq
      generalize Lib.hasPrefix t [61] = hp at *
      cases hp with
      | true =>
        have HV := Lib.hid (HV1.out rfl)
        clear HV0 HV1
        go_wp2_with fail
        refine (CPi.out _).mono ?_
        rintro e w2 ⟨rfl, rfl⟩
        clear CPi
        go_wp2_with fail
        refine (CTi.out _).mono ?_
        rintro e w3 ⟨rfl, hb3⟩
        have HB3 := Lib.hid (HBr.out.trans (hb3.mono HBr.out.size))
        clear hb3 CTi
        go_wp2_with fail
        go_ret2
        have h1 := HV.out
        injection h1 with h1 h2
        exact ⟨by rw [h1, h2]; rfl, HB3.out⟩
      | false =>
        have HV := Lib.hid (HV0.out rfl)
        clear HV0 HV1 CTi
        go_wp2_with fail
        refine (CPi.out _).mono ?_
        rintro e w2 ⟨rfl, rfl⟩
        clear CPi
        go_wp2_with fail
        go_roundg (gk - 1)
        case measure => have := HKG.out; omega
        case rel => exact ⟨3, by have := HKG.out; omega, rfl, HV, HBr⟩
    · clear ix0 tn0 ix1 tn1 ix2 tn2 ix4 tn4 ix5 tn5 ix6 tn6 ix7 tn7
      have CPi := Lib.hid (CP.out [60, 61])
      have CTi := Lib.hid (CT.out [60, 61])
      have HV0 : Hid (Lib.hasPrefix t [60, 61] = false → (Xn, Xb) = compF t (sgs.drop 4) 4) := fun h => HN.out.trans (if_neg (fun h2 => by rw [h] at h2; exact absurd h2.1 (by simp)))
      have HV1 : Hid (Lib.hasPrefix t [60, 61] = true → (Xn, Xb) = ((3 : Int), dL (Lib.trimPrefix t [60, 61]))) := fun h => HN.out.trans (if_pos ⟨h, by simp⟩)
      have hq : (mkS ([60, 61] : Bs)) = ⟨#[60, 61]⟩ := rfl
      rw [hq] at CPi
      clear CP CT HN hq
      generalize Lib.hasPrefix t [60, 61] = hp at *
      cases hp with
      | true =>
        have HV := Lib.hid (HV1.out rfl)
        clear HV0 HV1
        go_wp2_with fail
        refine (CPi.out _).mono ?_
        rintro e w2 ⟨rfl, rfl⟩
        clear CPi
        go_wp2_with fail
        refine (CTi.out _).mono ?_
        rintro e w3 ⟨rfl, hb3⟩
        have HB3 := Lib.hid (HBr.out.trans (hb3.mono HBr.out.size))
        clear hb3 CTi
        go_wp2_with fail
        go_ret2
        have h1 := HV.out
        injection h1 with h1 h2
        exact ⟨by rw [h1, h2]; rfl, HB3.out⟩
      | false =>
        have HV := Lib.hid (HV0.out rfl)
        clear HV0 HV1 CTi
        go_wp2_with fail
        refine (CPi.out _).mono ?_
        rintro e w2 ⟨rfl, rfl⟩
        clear CPi
        go_wp2_with fail
        go_roundg (gk - 1)
        case measure => have := HKG.out; omega
        case rel => exact ⟨4, by have := HKG.out; omega, rfl, HV, HBr⟩
    · clear ix0 tn0 ix1 tn1 ix2 tn2 ix3 tn3 ix5 tn5 ix6 tn6 ix7 tn7
      have CPi := Lib.hid (CP.out [62, 62])
      have CTi := Lib.hid (CT.out [62, 62])
      have HV0 : Hid (Lib.hasPrefix t [62, 62] = false → (Xn, Xb) = compF t (sgs.drop 5) 5) := fun h => HN.out.trans (if_neg (fun h2 => by rw [h] at h2; exact absurd h2.1 (by simp)))
      have HV1 : Hid (Lib.hasPrefix t [62, 62] = true → (Xn, Xb) = ((4 : Int), dL (Lib.trimPrefix t [62, 62]))) := fun h => HN.out.trans (if_pos ⟨h, by simp⟩)
      have hq : (mkS ([62, 62] : Bs)) = ⟨#[62, 62]⟩ := rfl
      rw [hq] at CPi
      clear CP CT HN hq
      generalize Lib.hasPrefix t [62, 62] = hp at *
      cases hp with
      | true =>
        have HV := Lib.hid (HV1.out rfl)
        clear HV0 HV1
        go_wp2_with fail
        refine (CPi.out _).mono ?_
        rintro e w2 ⟨rfl, rfl⟩
        clear CPi
        go_wp2_with fail
        refine (CTi.out _).mono ?_
        rintro e w3 ⟨rfl, hb3⟩
        have HB3 := Lib.hid (HBr.out.trans (hb3.mono HBr.out.size))
        clear hb3 CTi
        go_wp2_with fail
        go_ret2
        have h1 := HV.out
        injection h1 with h1 h2
        exact ⟨by rw [h1, h2]; rfl, HB3.out⟩
      | false =>
        have HV := Lib.hid (HV0.out rfl)
        clear HV0 HV1 CTi
        go_wp2_with fail
        refine (CPi.out _).mono ?_
        rintro e w2 ⟨rfl, rfl⟩
        clear CPi
        go_wp2_with fail
        go_roundg (gk - 1)
        case measure => have := HKG.out; omega
        case rel => exact ⟨5, by have := HKG.out; omega, rfl, HV, HBr⟩
    · clear ix0 tn0 ix1 tn1 ix2 tn2 ix3 tn3 ix4 tn4 ix6 tn6 ix7 tn7
      have CPi := Lib.hid (CP.out [] )
      have HV : Hid ((Xn, Xb) = compF t (sgs.drop 6) 6) := HN.out.trans (if_neg (fun h => h.2 rfl))
      have hq : (mkS ([] : Bs)) = ⟨#[]⟩ := rfl
      rw [hq] at CPi
      clear CP CT HN hq
      generalize Lib.hasPrefix t [] = hp at *
      cases hp with
      | true =>
        go_wp2_with fail
        refine (CPi.out _).mono ?_
        rintro e w2 ⟨rfl, rfl⟩
        clear CPi
        go_wp2_with fail
        go_roundg (gk - 1)
        case measure => have := HKG.out; omega
        case rel => exact ⟨6, by have := HKG.out; omega, rfl, HV, HBr⟩
      | false =>
        go_wp2_with fail
        refine (CPi.out _).mono ?_
        rintro e w2 ⟨rfl, rfl⟩
        clear CPi
        go_wp2_with fail
        go_roundg (gk - 1)
        case measure => have := HKG.out; omega
        case rel => exact ⟨6, by have := HKG.out; omega, rfl, HV, HBr⟩
    · clear ix0 tn0 ix1 tn1 ix2 tn2 ix3 tn3 ix4 tn4 ix5 tn5 ix7 tn7
      have CPi := Lib.hid (CP.out [62, 61])
      have CTi := Lib.hid (CT.out [62, 61])
      have HV0 : Hid (Lib.hasPrefix t [62, 61] = false → (Xn, Xb) = compF t (sgs.drop 7) 7) := fun h => HN.out.trans (if_neg (fun h2 => by rw [h] at h2; exact absurd h2.1 (by simp)))
      have HV1 : Hid (Lib.hasPrefix t [62, 61] = true → (Xn, Xb) = ((6 : Int), dL (Lib.trimPrefix t [62, 61]))) := fun h => HN.out.trans (if_pos ⟨h, by simp⟩)
      have hq : (mkS ([62, 61] : Bs)) = ⟨#[62, 61]⟩ := rfl
      rw [hq] at CPi
      clear CP CT HN hq
      generalize Lib.hasPrefix t [62, 61] = hp at *
      cases hp with
      | true =>
        have HV := Lib.hid (HV1.out rfl)
        clear HV0 HV1
        go_wp2_with fail
        refine (CPi.out _).mono ?_
        rintro e w2 ⟨rfl, rfl⟩
        clear CPi
        go_wp2_with fail
        refine (CTi.out _).mono ?_
        rintro e w3 ⟨rfl, hb3⟩
        have HB3 := Lib.hid (HBr.out.trans (hb3.mono HBr.out.size))
        clear hb3 CTi
        go_wp2_with fail
        go_ret2
        have h1 := HV.out
        injection h1 with h1 h2
        exact ⟨by rw [h1, h2]; rfl, HB3.out⟩
      | false =>
        have HV := Lib.hid (HV0.out rfl)
        clear HV0 HV1 CTi
        go_wp2_with fail
        refine (CPi.out _).mono ?_
        rintro e w2 ⟨rfl, rfl⟩
        clear CPi
        go_wp2_with fail
        go_roundg (gk - 1)
        case measure => have := HKG.out; omega
        case rel => exact ⟨7, by have := HKG.out; omega, rfl, HV, HBr⟩
    · clear ix0 tn0 ix1 tn1 ix2 tn2 ix3 tn3 ix4 tn4 ix5 tn5 ix6 tn6
      have CPi := Lib.hid (CP.out [] )
      have HV : Hid ((Xn, Xb) = compF t (sgs.drop 8) 8) := HN.out.trans (if_neg (fun h => h.2 rfl))
      have hq : (mkS ([] : Bs)) = ⟨#[]⟩ := rfl
      rw [hq] at CPi
      clear CP CT HN hq
      generalize Lib.hasPrefix t [] = hp at *
      cases hp with
      | true =>
        go_wp2_with fail
        refine (CPi.out _).mono ?_
        rintro e w2 ⟨rfl, rfl⟩
        clear CPi
        go_wp2_with fail
        go_roundg (gk - 1)
        case measure => have := HKG.out; omega
        case rel => exact ⟨8, by have := HKG.out; omega, rfl, HV, HBr⟩
      | false =>
        go_wp2_with fail
        refine (CPi.out _).mono ?_
        rintro e w2 ⟨rfl, rfl⟩
        clear CPi
        go_wp2_with fail
        go_roundg (gk - 1)
        case measure => have := HKG.out; omega
        case rel => exact ⟨8, by have := HKG.out; omega, rfl, HV, HBr⟩
    · clear CP CT ix0 tn0 ix1 tn1 ix2 tn2 ix3 tn3 ix4 tn4 ix5 tn5 ix6 tn6 ix7 tn7
      go_wp2_with fail
      go_ret2
      have h1 : (Xn, Xb) = ((0 : Int), t) := HN.out
      injection h1 with h1 h2
      exact ⟨by rw [h1, h2]; rfl, HBr.out⟩
end Go.Proofs.YtljldbdjkjllhaaGreatDoor

/- A relation of a piece. -/
namespace Go.Proofs.YtljldbdjkjllhaaGreatDoor
set_option linter.unusedSimpArgs false
set_option linter.unusedVariables false
open Go.RowKit

theorem res_cell_tmp {fn : Func} {t u : Tmp} {e : TypeId} (h : fn.results = #[.cell t e, .tmp u]) (tmps : Array Value) {P : Program} {w : World} {ad : Addr} (hp : tmps[t]?.getD undef = .pointer (some ad)) {v : Value} (hv : (loadVar e ad).run P w = .ok v w) :
    (results fn tmps).run P w = .ok (.tuple #[v, tmps.getD u undef]) w := by
  simp [results, h, hp, asAddr, hv]
theorem dep_get {w : World} {g : Nat} {a b c d e : Value} (h : Blk w g 44 #[a, b, c, d, e]) : (loadVar 44 ⟨g, 0, none⟩).run Tryz.prog w = .ok (.agg #[a, b, c, d, e]) w := by
  have b0 := h.cell 0
  have b1 := h.cell 1
  have b2 := h.cell 2
  have b3 := h.cell 3
  have b4 := h.cell 4
  simp at b0 b1 b2 b3 b4
  clear h
  go_simp
theorem clone_long (l : Bs) (hl : l.length ≤ 200000) (w : World) : Calls Tryz.prog 46 #[.string (mkS l)] w fun e w' => e = .returned (.string (mkS l)) ∧ Below w.heap.size w w' := by
  have C := Lib.hid (Tryz.stringslite_Clone (mkS l) w (by rw [mkS_size]; omega))
  generalize mkS l = S at *
  go_enter Tryz.func46, Tryz.ntmps46
  go_wp2_with fail
  refine C.out.mono ?_
  rintro e w1 ⟨rfl, hb⟩
  have HB := Lib.hid hb
  clear hb C
  go_wp2_with fail
  go_ret
  exact ⟨rfl, HB.out⟩
def nmS : Bs := [32, 9, 40]
def vrS : Bs := [32, 9, 41]
theorem nmS_ok : Seps nmS := ⟨by decide, by decide, by decide⟩
theorem vrS_ok : Seps vrS := ⟨by decide, by decide, by decide⟩
/-- What a piece tells: a name, a comparison, a version; whether it is a relation. -/
structure Rl where
  nm : Bs
  op : Int
  ev : Bs
  ok : Bool
def relX (l : Bs) : Rl :=
  if (cutX nmS l).2 = [] then ⟨(cutX nmS l).1, 0, [], !(cutX nmS l).1.isEmpty⟩
  else ⟨(cutX nmS l).1, (compX (Lib.trimPrefix (cutX nmS l).2 [40])).1, (cutX vrS (compX (Lib.trimPrefix (cutX nmS l).2 [40])).2).1,
    (!(cutX nmS l).1.isEmpty) && Lib.hasPrefix (cutX nmS l).2 [40] && ((compX (Lib.trimPrefix (cutX nmS l).2 [40])).1 != 0) && (!(cutX vrS (compX (Lib.trimPrefix (cutX nmS l).2 [40])).2).1.isEmpty) && ((cutX vrS (compX (Lib.trimPrefix (cutX nmS l).2 [40])).2).2 == [41])⟩
def relC (r : Rl) : Array Value := #[.int .i64 1, .string (mkS r.nm), .int .i64 r.op, .string (mkS r.ev), .slice none 0 0]
theorem eq_str (l m : Bs) : ((mkS l).toList == m) = (l == m) := by rw [ByteArray.toList_eq]; rfl
set_option maxHeartbeats 16000000 in
set_option maxRecDepth 1000000 in
theorem relation_any (l : Bs) (hl : l.length ≤ 200000) (w : World) (hS : SgnAt w) :
    Calls Tryz.prog 116 #[.string (mkS l)] w fun e w' => e = .returned (.tuple #[.agg (relC (relX l)), .bool (relX l).ok]) ∧ Below w.heap.size w w' := by
  have CU := Lib.hid (fun w => dCut_any nmS_ok l hl w)
  have hln := (cutX_len nmS l)
  unfold relX
  generalize cutX nmS l = X0 at *
  obtain ⟨nm, r1⟩ := X0
  simp only at hln CU ⊢
  have CL := Lib.hid (fun w => clone_long nm (by omega) w)
  obtain ⟨w1, hw1⟩ : ∃ w1, w1 = w.alloc (.cells #[.int .i64 0, .string ⟨#[]⟩, .int .i64 0, .string ⟨#[]⟩, .slice none 0 0] 44) := ⟨_, rfl⟩
  have Z1 : Hid (Blk w1 w.heap.size 44 #[.int .i64 0, .string ⟨#[]⟩, .int .i64 0, .string ⟨#[]⟩, .slice none 0 0]) := by rw [hw1]; exact Blk.new _ _ _
  have HB1 : Hid (Below w.heap.size w w1) := by rw [hw1]; exact (Below.refl _ _).alloc (Nat.le_refl _) _
  have HS := Lib.hid hS
  have tn := isEmpty_mkS nm
  have tr := isEmpty_mkS r1
  have q1 : Hid (mkS nmS = ⟨#[32, 9, 40]⟩) := rfl
  have q2 : Hid (mkS vrS = ⟨#[32, 9, 41]⟩) := rfl
  have q3 : Hid (mkS [40] = ⟨#[40]⟩) := rfl
  rw [q1.out] at CU
  by_cases hr : r1 = []
  · rw [if_pos hr]
    have tr1 : (mkS r1).toList.isEmpty = true := by rw [tr, hr]; rfl
    clear hln hr tr hS HS q1 q2 q3
    unfold relC
    show Calls _ _ _ _ (fun e w' => e = .returned (.tuple #[.agg #[.int .i64 1, .string (mkS nm), .int .i64 0, .string ⟨#[]⟩, .slice none 0 0], .bool (!nm.isEmpty)]) ∧ Below w.heap.size w w')
    generalize nm.isEmpty = b1 at *
    generalize mkS nm = NM at *
    generalize mkS r1 = R1 at *
    generalize mkS l = L at *
    go_enter Tryz.func116, Tryz.ntmps116
    go_upto_region 1 with fail
    rw [← hw1]
    clear hw1
    go_wp2_with fail
    refine (CU.out _).mono ?_
    rintro e w2 ⟨rfl, hb⟩
    have HB2 := Lib.hid (HB1.out.trans (hb.mono HB1.out.size))
    have Z2 := Lib.hid (Z1.out.below hb Z1.out.lt)
    clear hb CU Z1
    go_wp2_with fail
    refine (CL.out _).mono ?_
    rintro e w3 ⟨rfl, hb⟩
    have HB3 := Lib.hid (HB2.out.trans (hb.mono HB2.out.size))
    have Z3 := Lib.hid (Z2.out.below hb Z2.out.lt)
    clear hb CL Z2
    go_upto_region 3 with fail
    obtain ⟨w4, hw4⟩ : ∃ w4, w4 = w3.alloc (.cells #[.int .i64 1, .string NM, .int .i64 0, .string ⟨#[]⟩, .slice none 0 0] 44) := ⟨_, rfl⟩
    have D4 : Blk w4 w3.heap.size 44 #[.int .i64 1, .string NM, .int .i64 0, .string ⟨#[]⟩, .slice none 0 0] := by rw [hw4]; exact Blk.new _ _ _
    have hb4 : Below w3.heap.size w3 w4 := by rw [hw4]; exact (Below.refl _ _).alloc (Nat.le_refl _) _
    have HB4 := Lib.hid (HB3.out.trans (hb4.mono HB3.out.size))
    have Z4 := Z3.out.below hb4 Z3.out.lt
    rw [← hw4]
    clear hw4
    have d0 := D4.cell 0
    have d1 := D4.cell 1
    have d2 := D4.cell 2
    have d3 := D4.cell 3
    have d4 := D4.cell 4
    have z0 := Z4.cell 0
    have f0 := Z4.free 0
    have z1 := Z4.cell 1
    have f1 := Z4.free 1
    have z2 := Z4.cell 2
    have f2 := Z4.free 2
    have z3 := Z4.cell 3
    have f3 := Z4.free 3
    have z4 := Z4.cell 4
    have f4 := Z4.free 4
    simp at d0 d1 d2 d3 d4 z0 z1 z2 z3 z4
    have HK := Lib.hid (dep_get (((((Z4.set_ 0 (.int .i64 1)).set_ 1 (.string NM)).set_ 2 (.int .i64 0)).set_ 3 (.string ⟨#[]⟩)).set_ 4 (.slice none 0 0)))
    have HBZ : Hid (Below w.heap.size w (((((w4.setCell ⟨w.heap.size, 0, none⟩ (.int .i64 1)).setCell ⟨w.heap.size, 1, none⟩ (.string NM)).setCell ⟨w.heap.size, 2, none⟩ (.int .i64 0)).setCell ⟨w.heap.size, 3, none⟩ (.string ⟨#[]⟩)).setCell ⟨w.heap.size, 4, none⟩ (.slice none 0 0))) :=
      ((((HB4.out.setCell (Nat.le_refl _) _).setCell (Nat.le_refl _) _).setCell (Nat.le_refl _) _).setCell (Nat.le_refl _) _).setCell (Nat.le_refl _) _
    clear D4 Z4 hb4
    go_wp2_with fail
    refine bodyPost_ret (v := .tuple #[.agg #[.int .i64 1, .string NM, .int .i64 0, .string ⟨#[]⟩, .slice none 0 0], .bool (!b1)]) ?_ rfl ⟨rfl, HBZ.out⟩
    refine (res_cell_tmp (t := 2) (u := 3) rfl _ (ad := ⟨w.heap.size, 0, none⟩) rfl HK.out).trans ?_
    rfl
  · rw [if_neg hr]
    have tr1 : (mkS r1).toList.isEmpty = false := by rw [tr]; simpa using hr
    have CP := Lib.hid (fun w => Tryz.strings_CutPrefix (mkS r1) ⟨#[40]⟩ w)
    have hq : (⟨#[40]⟩ : ByteArray).data.toList = [40] := rfl
    rw [mkS_list, hq] at CP
    have hr2 := trim_len r1 [40]
    generalize Lib.trimPrefix r1 [40] = r2 at *
    generalize Lib.hasPrefix r1 [40] = b2 at *
    have CC := Lib.hid (fun w' (hb : Below w.heap.size w w') => comparison_any r2 (by omega) w' (HS.out.below' hb))
    have hr3 := compX_len r2
    generalize compX r2 = X1 at *
    obtain ⟨op, r3⟩ := X1
    simp only at CC hr3 ⊢
    have CV := Lib.hid (fun w => dCut_any vrS_ok r3 (by omega) w)
    have hr4 := cutX_len vrS r3
    generalize cutX vrS r3 = X2 at *
    obtain ⟨ev, r4⟩ := X2
    simp only at CV hr4 ⊢
    rw [q2.out] at CV
    have CE := Lib.hid (fun w => clone_long ev (by omega) w)
    have te := isEmpty_mkS ev
    have t4 := eq_str r4 [41]
    clear hln hr tr hS HS q1 q2 q3 hr2 hr3 hr4 hq
    unfold relC
    show Calls _ _ _ _ (fun e w' => e = .returned (.tuple #[.agg #[.int .i64 1, .string (mkS nm), .int .i64 op, .string (mkS ev), .slice none 0 0], .bool ((!nm.isEmpty) && b2 && (op != 0) && (!ev.isEmpty) && (r4 == [41]))]) ∧ Below w.heap.size w w')
    generalize nm.isEmpty = b1 at *
    generalize ev.isEmpty = b4 at *
    generalize (r4 == [41]) = b5 at *
    generalize mkS nm = NM at *
    generalize mkS r1 = R1 at *
    have hR2 : (⟨r2.toArray⟩ : ByteArray) = mkS r2 := rfl
    rw [hR2] at CP
    clear hR2
    generalize mkS r2 = R2 at *
    generalize mkS r3 = R3 at *
    generalize mkS r4 = R4 at *
    generalize mkS ev = EV at *
    generalize mkS l = L at *
    generalize ht3 : (op != 0) = b3 at *
    go_enter Tryz.func116, Tryz.ntmps116
    go_upto_region 1 with fail
    rw [← hw1]
    clear hw1
    go_wp2_with fail
    refine (CU.out _).mono ?_
    rintro e w2 ⟨rfl, hb⟩
    have HB2 := Lib.hid (HB1.out.trans (hb.mono HB1.out.size))
    have Z2 := Lib.hid (Z1.out.below hb Z1.out.lt)
    clear hb CU Z1
    go_wp2_with fail
    refine (CL.out _).mono ?_
    rintro e w3 ⟨rfl, hb⟩
    have HB3 := Lib.hid (HB2.out.trans (hb.mono HB2.out.size))
    have Z3 := Lib.hid (Z2.out.below hb Z2.out.lt)
    clear hb CL Z2
    go_upto_region 3 with fail
    obtain ⟨w4, hw4⟩ : ∃ w4, w4 = w3.alloc (.cells #[.int .i64 1, .string NM, .int .i64 0, .string ⟨#[]⟩, .slice none 0 0] 44) := ⟨_, rfl⟩
    have D4 : Hid (Blk w4 w3.heap.size 44 #[.int .i64 1, .string NM, .int .i64 0, .string ⟨#[]⟩, .slice none 0 0]) := by rw [hw4]; exact Blk.new _ _ _
    have hb4 : Below w3.heap.size w3 w4 := by rw [hw4]; exact (Below.refl _ _).alloc (Nat.le_refl _) _
    have HB4 := Lib.hid (HB3.out.trans (hb4.mono HB3.out.size))
    have Z4 := Lib.hid (Z3.out.below hb4 Z3.out.lt)
    have hne : ¬ w.heap.size = w3.heap.size := by have := Z3.out.lt; omega
    have hsz3 : w.heap.size ≤ w3.heap.size := HB3.out.size
    rw [← hw4]
    clear hw4 hb4
    go_wp2_with fail
    refine (CP.out _).mono ?_
    rintro e w4' ⟨rfl, rfl⟩
    clear CP
    go_wp2_with fail
    refine (CC.out _ HB4.out).mono ?_
    rintro e w5 ⟨rfl, hb⟩
    have HB5 := Lib.hid (HB4.out.trans (hb.mono HB4.out.size))
    have Z5 := Lib.hid (Z4.out.below hb Z4.out.lt)
    have D5 := Lib.hid (D4.out.below hb D4.out.lt)
    clear hb CC Z4 D4
    have d2 := D5.out.cell 2
    have g2 := D5.out.free 2
    simp at d2
    have D6 := Lib.hid (D5.out.set_ 2 (.int .i64 op))
    have Z6 := Lib.hid (Z5.out.far (p := ⟨w3.heap.size, 2, none⟩) hne (.int .i64 op))
    have HB6 : Hid (Below w.heap.size w (w5.setCell ⟨w3.heap.size, 2, none⟩ (.int .i64 op))) := HB5.out.setCell hsz3 _
    go_upto_region 7 with fail
    generalize w5.setCell ⟨w3.heap.size, 2, none⟩ (.int .i64 op) = w6 at *
    clear d2 g2 D5 Z5 HB5
    go_wp2_with fail
    refine (CV.out _).mono ?_
    rintro e w7 ⟨rfl, hb⟩
    have HB7 := Lib.hid (HB6.out.trans (hb.mono HB6.out.size))
    have Z7 := Lib.hid (Z6.out.below hb Z6.out.lt)
    have D7 := Lib.hid (D6.out.below hb D6.out.lt)
    clear hb CV Z6 D6
    go_wp2_with fail
    refine (CE.out _).mono ?_
    rintro e w8 ⟨rfl, hb⟩
    have HB8 := Lib.hid (HB7.out.trans (hb.mono HB7.out.size))
    have Z8 := Lib.hid (Z7.out.below hb Z7.out.lt)
    have D8 := Lib.hid (D7.out.below hb D7.out.lt)
    clear hb CE Z7 D7
    have d3 := D8.out.cell 3
    have g3 := D8.out.free 3
    simp at d3
    have D4 := (D8.out.set_ 3 (.string EV))
    have Z4 := (Z8.out.far (p := ⟨w3.heap.size, 3, none⟩) hne (.string EV))
    have HB9 : Hid (Below w.heap.size w (w8.setCell ⟨w3.heap.size, 3, none⟩ (.string EV))) := HB8.out.setCell hsz3 _
    go_upto_region 9 with fail
    generalize w8.setCell ⟨w3.heap.size, 3, none⟩ (.string EV) = w9 at *
    clear d3 g3 D8 Z8 HB8
    have d0 := D4.cell 0
    have d1 := D4.cell 1
    have d2 := D4.cell 2
    have d3 := D4.cell 3
    have d4 := D4.cell 4
    have z0 := Z4.cell 0
    have f0 := Z4.free 0
    have z1 := Z4.cell 1
    have f1 := Z4.free 1
    have z2 := Z4.cell 2
    have f2 := Z4.free 2
    have z3 := Z4.cell 3
    have f3 := Z4.free 3
    have z4 := Z4.cell 4
    have f4 := Z4.free 4
    simp at d0 d1 d2 d3 d4 z0 z1 z2 z3 z4
    have HK := Lib.hid (dep_get (((((Z4.set_ 0 (.int .i64 1)).set_ 1 (.string NM)).set_ 2 (.int .i64 op)).set_ 3 (.string EV)).set_ 4 (.slice none 0 0)))
    have HBZ : Hid (Below w.heap.size w (((((w9.setCell ⟨w.heap.size, 0, none⟩ (.int .i64 1)).setCell ⟨w.heap.size, 1, none⟩ (.string NM)).setCell ⟨w.heap.size, 2, none⟩ (.int .i64 op)).setCell ⟨w.heap.size, 3, none⟩ (.string EV)).setCell ⟨w.heap.size, 4, none⟩ (.slice none 0 0))) :=
      ((((HB9.out.setCell (Nat.le_refl _) _).setCell (Nat.le_refl _) _).setCell (Nat.le_refl _) _).setCell (Nat.le_refl _) _).setCell (Nat.le_refl _) _
    clear D4 Z4
    cases b1 with
    | true =>
      go_wp2_with fail
      refine bodyPost_ret (v := .tuple #[.agg #[.int .i64 1, .string NM, .int .i64 op, .string EV, .slice none 0 0], .bool false]) ?_ rfl ⟨rfl, HBZ.out⟩
      refine (res_cell_tmp (t := 2) (u := 3) rfl _ (ad := ⟨w.heap.size, 0, none⟩) rfl HK.out).trans ?_
      rfl
    | false =>
    cases b2 with
    | false =>
      go_wp2_with fail
      refine bodyPost_ret (v := .tuple #[.agg #[.int .i64 1, .string NM, .int .i64 op, .string EV, .slice none 0 0], .bool false]) ?_ rfl ⟨rfl, HBZ.out⟩
      refine (res_cell_tmp (t := 2) (u := 3) rfl _ (ad := ⟨w.heap.size, 0, none⟩) rfl HK.out).trans ?_
      rfl
    | true =>
    cases b3 with
    | false =>
      go_wp2_with fail
      refine bodyPost_ret (v := .tuple #[.agg #[.int .i64 1, .string NM, .int .i64 op, .string EV, .slice none 0 0], .bool false]) ?_ rfl ⟨rfl, HBZ.out⟩
      refine (res_cell_tmp (t := 2) (u := 3) rfl _ (ad := ⟨w.heap.size, 0, none⟩) rfl HK.out).trans ?_
      rfl
    | true =>
    cases b4 with
    | true =>
      go_wp2_with fail
      refine bodyPost_ret (v := .tuple #[.agg #[.int .i64 1, .string NM, .int .i64 op, .string EV, .slice none 0 0], .bool false]) ?_ rfl ⟨rfl, HBZ.out⟩
      refine (res_cell_tmp (t := 2) (u := 3) rfl _ (ad := ⟨w.heap.size, 0, none⟩) rfl HK.out).trans ?_
      rfl
    | false =>
    cases b5 with
    | false =>
      go_wp2_with fail
      refine bodyPost_ret (v := .tuple #[.agg #[.int .i64 1, .string NM, .int .i64 op, .string EV, .slice none 0 0], .bool false]) ?_ rfl ⟨rfl, HBZ.out⟩
      refine (res_cell_tmp (t := 2) (u := 3) rfl _ (ad := ⟨w.heap.size, 0, none⟩) rfl HK.out).trans ?_
      rfl
    | true =>
      go_wp2_with fail
      refine bodyPost_ret (v := .tuple #[.agg #[.int .i64 1, .string NM, .int .i64 op, .string EV, .slice none 0 0], .bool true]) ?_ rfl ⟨rfl, HBZ.out⟩
      refine (res_cell_tmp (t := 2) (u := 3) rfl _ (ad := ⟨w.heap.size, 0, none⟩) rfl HK.out).trans ?_
      rfl
end Go.Proofs.YtljldbdjkjllhaaGreatDoor
