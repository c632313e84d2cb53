/- strings.Trim and strings.TrimLeft of blanks and bytes 9. strings.Clone. A part of a text up to some bytes: cut; the sign that a text begins with: comparison. The sign that a text begins with: comparison. A region that draws its order, in which a cell is loaded ahead of a store to it: what holds of the cells hangs on which stores have come up. A region that draws its order: where two may come up next; the steps of a look-up, of a store into a map, by their runs. A relation of a piece. Comparisons of versions as plain functions of lists of bytes, and that they are orders. -/
import Derived.Test.YtdhgiammfpjniaaGreatDoorZaad
import Derived.StillTailTactics
import Derived.Deep.LoopGhost
import Derived.Deep.RegionHeld
import Derived.StillTail
import Derived.Test.YtdhgiammfpjniaaGreatDoorZaaa
/- strings.Trim and strings.TrimLeft of blanks and bytes 9. -/
namespace Go.Proofs.YtdhgiammfpjniaaGreatDoor
set_option linter.unusedSimpArgs false
set_option linter.unusedVariables false
open Go.RowKit

def dLay (c : UInt8) : Bool := c == 32 || c == 9
def dLayS : Bs := [32, 9]
theorem dLay_has (c : UInt8) : dLayS.contains c = dLay c := by
  unfold dLayS dLay
  simp only [List.contains_cons, List.contains_nil, Bool.or_false, Bool.or_assoc]
def dR (l : Bs) : Bs := (l.reverse.dropWhile dLay).reverse
def dL (l : Bs) : Bs := l.dropWhile dLay
def dTrim (l : Bs) : Bs := dL (dR l)
theorem dropw_all : ∀ {l : Bs}, l.all dLay = true → ∀ m : Bs, (l ++ m).dropWhile dLay = m.dropWhile dLay
  | [], _, m => rfl
  | c :: r, h, m => by
    rw [List.all_cons, Bool.and_eq_true] at h
    rw [List.cons_append, List.dropWhile_cons, if_pos h.1]
    exact dropw_all h.2 m
theorem all_rev (l : Bs) : l.reverse.all dLay = l.all dLay := by simp
theorem dR_end {l : Bs} {j : Nat} {c : UInt8} (h : (l.drop (j + 1)).all dLay = true) (hc : l[j]? = some c) (hn : dLay c = false) : dR l = l.take (j + 1) := by
  have e : l = l.take (j + 1) ++ l.drop (j + 1) := (List.take_append_drop _ _).symm
  have e2 : l.take (j + 1) = l.take j ++ [c] := by rw [List.take_add_one, hc]; rfl
  unfold dR
  have e3 : l.reverse = (l.drop (j + 1)).reverse ++ (c :: (l.take j).reverse) := by
    conv => lhs; rw [e, List.reverse_append, e2, List.reverse_append]
    rfl
  rw [e3, dropw_all (by rw [all_rev]; exact h), List.dropWhile_cons, if_neg (by rw [hn]; simp), e2]
  simp
theorem dR_none {l : Bs} (h : l.all dLay = true) : dR l = [] := by
  unfold dR
  have := dropw_all (l := l.reverse) (by rw [all_rev]; exact h) []
  rw [List.append_nil] at this
  rw [this]
  rfl
theorem dR_len (l : Bs) : (dR l).length ≤ l.length := by
  unfold dR
  rw [List.length_reverse]
  have := (List.dropWhile_suffix (l := l.reverse) dLay).length_le
  simpa using this
theorem dL_len (l : Bs) : (dL l).length ≤ l.length := (List.dropWhile_suffix (l := l) dLay).length_le
theorem dTrim_len (l : Bs) : (dTrim l).length ≤ l.length := Nat.le_trans (dL_len _) (dR_len _)
/-- A set of bytes in memory. -/
def SetD (w : World) (b : Nat) : Prop := ∀ x : UInt8, w.cell? ⟨b, x.toNat, none⟩ = some (.bool (dLay x))
set_option maxHeartbeats 4000000 in
set_option maxRecDepth 1000000 in
theorem dTrimR_any (b : Nat) (w : World) (hs : SetD w b) (l : Bs) (hl : l.length ≤ 200000) :
    Calls Tryz.prog 90 #[.string (mkS l), .pointer (some ⟨b, 0, none⟩)] w fun e w' => e = .returned (.string (mkS (dR l))) ∧ w = w' := by
  have HS := Lib.hid hs
  clear hs
  have HC := Lib.hid (fun x w hc => Tryz.asciiSet_contains b x (dLay x) w hc)
  go_enter Tryz.func90, Tryz.ntmps90
  go_wp2_with fail
  go_loop [0] (fun v => ∃ k : Nat, k ≤ l.length ∧ v = .string (mkS (l.take k)) ∧ Hid ((l.drop k).all dLay = true)) (fun v => match v with | .string s => s.size | _ => 0)
  case atStart => exact ⟨l.length, Nat.le_refl _, by rw [List.take_length], by show (l.drop l.length).all dLay = true; rw [List.drop_length]; rfl⟩
  case round =>
    obtain ⟨k, hk, rfl, hall⟩ := hrel
    have hz : (mkS (l.take k)).size = k := by rw [mkS_size, List.length_take]; omega
    cases k with
    | zero =>
      have HV : Hid (l.all dLay = true) := hall.out
      have h0 : ((mkS (l.take 0)).size : Int) = 0 := by rw [hz]; rfl
      go_wp2_with fail
      go_ret
      exact ⟨by rw [dR_none HV.out]; rfl, rfl⟩
    | succ j =>
      have hj : j < l.length := by omega
      have hjz : j < (mkS (l.take (j + 1))).size := by omega
      obtain ⟨c, hc⟩ : ∃ c, c = l[j] := ⟨_, rfl⟩
      have hget : (mkS (l.take (j + 1)))[j]'hjz = c := by
        have h1 := byte_at hjz
        rw [mkS_list, List.getElem?_take, if_pos (by omega), List.getElem?_eq_getElem hj] at h1
        injection h1 with h1
        rw [hc]; exact h1.symm
      have hext : (mkS (l.take (j + 1))).extract 0 j = mkS (l.take j) := by rw [mkS_take, List.take_take, Nat.min_eq_left (by omega)]
      have htk : l.take (j + 1) = l.take j ++ [c] := by rw [List.take_add_one, List.getElem?_eq_getElem hj, hc]; rfl
      have hdr : l.drop j = c :: l.drop (j + 1) := by rw [hc]; exact List.drop_eq_getElem_cons hj
      have HN1 : Hid (dLay c = true → (l.drop j).all dLay = true) := fun h => by have := hall.out; rw [hdr, List.all_cons, h, this]; rfl
      have HN2 : Hid (dLay c = false → dR l = l.take (j + 1)) := fun h => dR_end hall.out (by rw [List.getElem?_eq_getElem hj, hc]) h
      have HTK := Lib.hid htk
      have HZJ : Hid ((mkS (l.take j)).size < (mkS (l.take (j + 1))).size) := by show (mkS _).size < _; rw [hz, mkS_size, List.length_take]; omega
      have CC := Lib.hid (HC.out c w (HS.out c))
      have hs1 : ((mkS (l.take (j + 1))).size : Int) - 1 = (j : Int) := by rw [hz]; omega
      have hs0 : (0 : Int) < ((mkS (l.take (j + 1))).size : Int) := by rw [hz]; omega
      have hz40 : (mkS (l.take (j + 1))).size ≤ 200000 := by rw [hz]; omega
      clear hdr htk hc hz hall hj
      generalize hSS : mkS (l.take (j + 1)) = S at *
      have HSS := Lib.hid hSS
      clear hSS
      generalize hR : mkS (l.take j) = R at *
      have HR := Lib.hid hR
      clear hR
      generalize hxc : dLay c = bb at *
      cases bb with
      | true =>
        clear hxc
        have HN := Lib.hid (HN1.out rfl)
        clear HN1 HN2
        go_wp2_with fail
        refine CC.out.mono ?_
        rintro e w1 ⟨rfl, rfl⟩
        go_wp2_with fail
        go_round
        case rel => exact ⟨j, by omega, by rw [HR.out], HN⟩
        case measure => exact HZJ.out
      | false =>
        have HN := Lib.hid (HN2.out rfl)
        have HXC := Lib.hid hxc
        clear HN1 HN2 hxc
        go_wp2_with fail
        refine CC.out.mono ?_
        rintro e w1 ⟨rfl, rfl⟩
        go_wp2_with fail
        go_ret
        exact ⟨(by first | (rw [HN.out, HSS.out]; done) | (rw [HN.out, HSS.out]; rfl)), rfl⟩
set_option maxHeartbeats 4000000 in
set_option maxRecDepth 1000000 in
theorem dTrimL_any (b : Nat) (w : World) (hs : SetD w b) (l : Bs) (hl : l.length ≤ 200000) :
    Calls Tryz.prog 89 #[.string (mkS l), .pointer (some ⟨b, 0, none⟩)] w fun e w' => e = .returned (.string (mkS (dL l))) ∧ w = w' := by
  have HS := Lib.hid hs
  clear hs
  have HC := Lib.hid (fun x w hc => Tryz.asciiSet_contains b x (dLay x) w hc)
  go_enter Tryz.func89, Tryz.ntmps89
  go_wp2_with fail
  go_loop [0] (fun v => ∃ m : Bs, m.length ≤ l.length ∧ v = .string (mkS m) ∧ Hid (dL m = dL l)) (fun v => match v with | .string s => s.size | _ => 0)
  case atStart => exact ⟨l, Nat.le_refl _, rfl, rfl⟩
  case round =>
    obtain ⟨m, hm, rfl, hall⟩ := hrel
    cases m with
    | nil =>
      have HV : Hid (dL l = []) := hall.out.symm
      have h0 : ((mkS []).size : Int) = 0 := rfl
      generalize hSS : mkS [] = S at *
      have HSS := Lib.hid hSS
      clear hSS hall
      go_wp2_with fail
      go_ret
      exact ⟨(by first | (rw [HV.out, HSS.out]; done) | (rw [HV.out, HSS.out]; rfl)), rfl⟩
    | cons c r =>
      have hjz : 0 < (mkS (c :: r)).size := by rw [mkS_size]; simp
      have hget : (mkS (c :: r))[0]'hjz = c := rfl
      have hext : (mkS (c :: r)).extract 1 (mkS (c :: r)).size = mkS r := by rw [mkS_drop]; rfl
      have CC := Lib.hid (HC.out c w (HS.out c))
      have hs0 : (0 : Int) < ((mkS (c :: r)).size : Int) := by omega
      have hz40 : (mkS (c :: r)).size ≤ 200000 := by rw [mkS_size]; omega
      have HZJ : Hid ((mkS r).size < (mkS (c :: r)).size) := by show (mkS r).size < _; rw [mkS_size, mkS_size]; simp
      have HRN : Hid (dLay c = true → dL r = dL l) := fun hc => by
        rw [← hall.out]
        show _ = (c :: r).dropWhile dLay
        rw [List.dropWhile_cons, if_pos hc]
        rfl
      have HRF : Hid (dLay c = false → dL l = c :: r) := fun hc => by
        rw [← hall.out]
        show (c :: r).dropWhile dLay = _
        rw [List.dropWhile_cons, if_neg (by rw [hc]; simp)]
      have hrl : r.length ≤ l.length := by simp at hm; omega
      clear hall hm
      generalize hSS : mkS (c :: r) = S at *
      generalize hRR : mkS r = R at *
      have HSS := Lib.hid hSS
      have HR := Lib.hid hRR
      clear hSS hRR
      generalize dLay c = bb at *
      cases bb with
      | true =>
        have HN := Lib.hid (HRN.out rfl)
        clear HRN HRF
        go_wp2_with fail
        refine CC.out.mono ?_
        rintro e w1 ⟨rfl, rfl⟩
        go_wp2_with fail
        go_round
        case rel => exact ⟨r, hrl, by rw [HR.out], HN⟩
        case measure => exact HZJ.out
      | false =>
        have HF := Lib.hid (HRF.out rfl)
        clear HRN HRF
        go_wp2_with fail
        refine CC.out.mono ?_
        rintro e w1 ⟨rfl, rfl⟩
        go_wp2_with fail
        go_ret
        exact ⟨(by first | (rw [HF.out, HSS.out]; done) | (rw [HF.out, HSS.out]; rfl)), rfl⟩
set_option maxHeartbeats 8000000 in
set_option maxRecDepth 1000000 in
theorem dTrim_any (l : Bs) (hl : l.length ≤ 200000) (w : World) :
    Calls Tryz.prog 42 #[.string (mkS l), .string (mkS dLayS)] w fun e w' => e = .returned (.string (mkS (dTrim l))) ∧ Below w.heap.size w w' := by
  have CM := Lib.hid (fun w => Tryz.strings_makeASCIISet zeroSet (mkS dLayS) w (by decide) (fun j b hb => by
    have h : ∀ c ∈ dLayS, c.toNat < 128 := by decide
    exact h b (List.mem_of_getElem? hb)))
  obtain ⟨CS, hCS⟩ : ∃ CS, CS = Lib.setCells dLayS := ⟨_, rfl⟩
  have S1 := Lib.hid (show CS.size = 256 from hCS ▸ Lib.setCells_size _)
  have S2 := Lib.hid (show CS.all (·.oneCell') = true from hCS ▸ Lib.setCells_one _)
  have S3 : Hid (∀ x : UInt8, CS[x.toNat]? = some (.bool (dLay x))) := fun x => by
    rw [hCS, Lib.setCells_at, dLay_has]
  rw [mkS_list, ← hCS] at CM
  clear hCS
  have hsc : (storeCells ⟨w.heap.size + 1, 0, none⟩ CS.toList 0).run Tryz.prog ((w.alloc (.cells CS 130)).alloc (.cells (Array.replicate 256 (.bool false)) 130)) = .ok () ((w.alloc (.cells CS 130)).alloc (.cells CS 130)) := by
    have := run_storeCells_new (P := Tryz.prog) (w.alloc (.cells CS 130)) 130 (Array.replicate 256 (.bool false)) CS (by rw [S1.out]; kernel_rfl) (by rw [S1.out, Array.size_replicate]) S2.out
    simpa using this
  have hlay : (mkS dLayS).toList.isEmpty = false := by rw [toList_cons (by decide)]
  have hone : (((mkS dLayS).size : Int) == 1) = false := by decide
  have hzs := zeroSet
  cases hl0 : l with
  | nil =>
    have hemp : (mkS ([] : Bs)).toList.isEmpty = true := by rw [isEmpty_mkS]; rfl
    generalize hSS : mkS ([] : Bs) = S at *
    have HSS := Lib.hid hSS
    clear hSS hl0 hl
    generalize mkS dLayS = LS at *
    go_enter Tryz.func42, Tryz.ntmps42
    go_wp2_with fail
    go_ret
    exact ⟨(by first | (rw [show dTrim [] = [] from rfl, HSS.out]; done) | (rw [show dTrim [] = [] from rfl, HSS.out]; rfl)), Below.refl _ _⟩
  | cons c r =>
    rw [← hl0]
    have hemp : (mkS l).toList.isEmpty = false := by rw [isEmpty_mkS, hl0]; rfl
    clear hl0 c r
    have CR := Lib.hid (fun b w hs => dTrimR_any b w hs l hl)
    generalize mkS l = S at *
    generalize mkS dLayS = LS at *
    go_enter Tryz.func42, Tryz.ntmps42
    go_wp2_with (go_at_call 88; refine (CM.out _).mono ?_; rintro e w' ⟨rfl, hw⟩; rw [hw])
    have HB : Hid (Below w.heap.size w ((w.alloc (.cells CS 130)).alloc (.cells CS 130))) := ((Below.refl _ _).alloc (Nat.le_refl _) _).alloc (by simp) _
    have HC : SetD ((w.alloc (.cells CS 130)).alloc (.cells CS 130)) (w.heap.size + 1) := fun x => by
      rw [(Blk.new' (w := w.alloc (.cells CS 130)) (g := w.heap.size + 1) (t := 130) (cs := CS) (by simp)).cell]
      exact S3.out x
    have CR1 := Lib.hid (CR.out _ _ HC)
    have HCC := Lib.hid HC
    clear hsc CM hzs HC CR
    generalize ((w.alloc (.cells CS 130)).alloc (.cells CS 130)) = w1 at *
    go_wp2_with fail
    refine CR1.out.mono ?_
    rintro e w2 ⟨rfl, rfl⟩
    have CL1 := Lib.hid (dTrimL_any (w.heap.size + 1) w1 HCC.out (dR l) (Nat.le_trans (dR_len l) hl))
    clear CR1
    go_wp2_with fail
    refine CL1.out.mono ?_
    rintro e w2 ⟨rfl, rfl⟩
    clear CL1
    go_wp2_with fail
    go_ret
    exact ⟨rfl, HB.out⟩
end Go.Proofs.YtdhgiammfpjniaaGreatDoor

/- strings.Clone. -/
namespace Go.Proofs.YtdhgiammfpjniaaGreatDoor
set_option linter.unusedSimpArgs false
set_option linter.unusedVariables false
open Go.RowKit

set_option maxRecDepth 100000 in
theorem clone_any (s : ByteArray) (w : World) (hs : s.size ≤ 40000) : Calls Tryz.prog 48 #[.string s] w fun e w' => e = .returned (.string s) ∧ Below w.heap.size w w' := by
  have C := Lib.hid (Tryz.stringslite_Clone s w (by omega))
  go_enter Tryz.func48, Tryz.ntmps48
  go_wp2_with fail
  refine C.out.mono ?_
  rintro e w1 ⟨rfl, hb⟩
  have HB := Lib.hid hb
  clear hb
  go_wp2_with fail
  go_ret
  exact ⟨rfl, HB.out⟩
end Go.Proofs.YtdhgiammfpjniaaGreatDoor

/- A part of a text up to some bytes: cut; the sign that a text begins with: comparison. -/
namespace Go.Proofs.YtdhgiammfpjniaaGreatDoor
set_option linter.unusedSimpArgs false
set_option linter.unusedVariables false
open Go.RowKit

end Go.Proofs.YtdhgiammfpjniaaGreatDoor

/- The sign that a text begins with: comparison. -/
namespace Go.Proofs.YtdhgiammfpjniaaGreatDoor
set_option linter.unusedSimpArgs false
set_option linter.unusedVariables false
open Go.RowKit

def sgCs : Array Value := #[.string ⟨#[]⟩, .string ⟨#[60, 60]⟩, .string ⟨#[61]⟩, .string ⟨#[60, 61]⟩, .string ⟨#[62, 62]⟩, .string ⟨#[]⟩, .string ⟨#[62, 61]⟩, .string ⟨#[]⟩]
def SgnAt (w : World) : Prop := ∃ t, Blk w 4 t sgCs
theorem SgnAt.turned {w w' : World} {F : List Nat} (h : SgnAt w) (ht : Turned F w w') (hF : 4 ∉ F) : SgnAt w' := by
  obtain ⟨t, h⟩ := h
  exact ⟨t, h.turned ht hF⟩
theorem SgnAt.below' {w w' : World} (h : SgnAt w) (hb : Below w.heap.size w w') : SgnAt w' := h.turned (Turned.of_below hb []) (by simp)
end Go.Proofs.YtdhgiammfpjniaaGreatDoor

/- A region that draws its order, in which a cell is loaded ahead of a store to it: what holds of the cells hangs on which stores have come up. -/
namespace Go.Proofs.YtdhgiammfpjniaaGreatDoor
set_option linter.unusedSimpArgs false
set_option linter.unusedVariables false
open Go

section
variable {P : Program} {ops : Array Oper} {Q : Exit → Act → World → Prop} {md : Region.Mode} {S : Array Bool → World → Prop}

/-- Whatever order is picked, and S, which may look at what has come up, holds behind each. -/
def wpAnyS (P : Program) (md : Region.Mode) (ops : Array Oper) (Q : Exit → Act → World → Prop) (S : Array Bool → World → Prop) : Nat → Array Bool → Act → World → Prop
  | 0, listed, a, w => Region.ready md ops listed = [] ∧ Q .normal a w
  | fuel + 1, listed, a, w =>
    (Region.ready md ops listed = [] → Q .normal a w) ∧
    ∀ i ∈ Region.ready md ops listed, wpOp P ops Q i (fun a' w' => S (listed.setIfInBounds i true) w' ∧ wpAnyS P md ops Q S fuel (listed.setIfInBounds i true) a' w') a w

theorem wpAny_of_S : ∀ (fuel : Nat) (listed : Array Bool) (a : Act) (w : World), wpAnyS P md ops Q S fuel listed a w → wpAny P md ops Q fuel listed a w
  | 0, _, _, _, h => h
  | fuel + 1, _, _, _, h => ⟨h.1, fun i hi => wpOp_mono (fun a' w' h' => wpAny_of_S fuel _ a' w' h'.2) (h.2 i hi)⟩

theorem wpAnyS_first {S' : World → Prop} {i : Nat} {oi : Oper} {v : Value} (hi : ops[i]? = some oi) (hsel : ∀ (j : Nat) (o : Oper) cs b, ops[j]? = some o → o.op ≠ .select cs b)
    (hQ : ∀ c a w, Q (.panic c) (a.put oi.dst v) w → Q (.panic c) a w)
    (hin : ∀ l w, (∀ k, Region.waitsFor md ops k i = true → l.getD k true = false) → S l w → S' w)
    (hio : ∀ l w, S (l.setIfInBounds i true) w ↔ S l w) :
    ∀ (fuel : Nat) (listed : Array Bool) (a : Act) (w : World),
      (∀ j oj, ops[j]? = some oj → j ≠ i → listed.getD j true = false → (∀ e ∈ oj.after, Region.binds md e = true → e.on ≠ i) → oi.apart ops oj = true) →
      (∀ k, Region.waitsFor md ops k i = true → listed.getD k true = false) →
      i ∈ Region.ready md ops listed → YieldsIf P ops S' oi v a → S listed w →
      wpAnyS P md ops Q S fuel (listed.setIfInBounds i true) (a.put oi.dst v) w → wpAnyS P md ops Q S (fuel + 1) listed a w := by
  intro fuel
  induction fuel with
  | zero =>
    intro listed a w _ hwt hr hy hS H
    refine ⟨fun h => (by rw [h] at hr; cases hr), fun j hj => ?_⟩
    by_cases hji : j = i
    · subst hji
      exact hy.wpOp hi (hin _ _ hwt hS) ⟨(hio _ _).2 hS, H⟩
    · have := ready_mono hj hji
      rw [H.1] at this
      cases this
  | succ fuel ih =>
    intro listed a w hfree hwt hr hy hS H
    refine ⟨fun h => (by rw [h] at hr; cases hr), fun j hj => ?_⟩
    by_cases hji : j = i
    · subst hji; exact hy.wpOp hi (hin _ _ hwt hS) ⟨(hio _ _).2 hS, H⟩
    · have h1 := H.2 j (ready_mono hj hji)
      obtain ⟨hjun, oj, hoj, hall⟩ := mem_ready.1 hj
      have hnot : ∀ e ∈ oj.after, Region.binds md e = true → e.on ≠ i := fun e he hb heq => by
        have h1 := hall e he hb
        have h0 := (mem_ready.1 hr).1
        rw [heq] at h1
        rcases Nat.lt_or_ge i listed.size with h' | h'
        · simp [h'] at h0 h1; rw [h0] at h1; cases h1
        · simp [Array.getElem?_eq_none h'] at h1
      have h2 := wpOp_putIf hoj (hfree j oj hoj hji hjun hnot) (fun cs b => hsel i oi cs b hi) (fun cs b => hsel j oj cs b hoj) hQ hy h1
      have hfree' : ∀ k ok, ops[k]? = some ok → k ≠ i → (listed.setIfInBounds j true).getD k true = false →
          (∀ e ∈ ok.after, Region.binds md e = true → e.on ≠ i) → oi.apart ops ok = true := fun k ok hk hki hun hno => by
        refine hfree k ok hk hki ?_ hno
        by_cases hjk : j = k
        · subst hjk; exact hjun
        · rw [getD_set_ne true hjk] at hun; exact hun
      have hwt' : ∀ k, Region.waitsFor md ops k i = true → (listed.setIfInBounds j true).getD k true = false := fun k hk => by
        have hjk : j ≠ k := by
          rintro rfl
          obtain ⟨o', ho', e, he, hb, hon⟩ := Region.waitsFor_spec hk
          have : o' = oj := Option.some.inj (ho'.symm.trans hoj)
          subst this
          exact hnot e he hb hon
        rw [getD_set_ne true hjk]; exact hwt k hk
      refine wpOp_mono (fun a' w' h3 => ?_) h2
      obtain ⟨hy', hS', H'⟩ := h3
      rw [Array.setIfInBounds_comm _ _ (Ne.symm hji)] at hS'
      have hS2 := (hio _ _).1 hS'
      refine ⟨hS2, ih (listed.setIfInBounds j true) a' w' hfree' hwt' (ready_mono hr (Ne.symm hji)) hy' hS2 ?_⟩
      rw [Array.setIfInBounds_comm _ _ hji]
      exact H'

/-- Take number i first. -/
theorem wpAnyS_take (S' : World → Prop) {i : Nat} {oi : Oper} {v : Value} {fuel : Nat} {listed : Array Bool} {a : Act} {w : World} (hi : ops[i]? = some oi)
    (hs : Region.noSelect ops = true) (hf : Region.free md ops listed i = true) (hr : (Region.ready md ops listed).contains i = true)
    (hQ : ∀ c a w, Q (.panic c) (a.put oi.dst v) w → Q (.panic c) a w)
    (hin : ∀ l w, (∀ k, Region.waitsFor md ops k i = true → l.getD k true = false) → S l w → S' w)
    (hio : ∀ l w, S (l.setIfInBounds i true) w ↔ S l w)
    (hwt : ((List.range ops.size).all fun k => !Region.waitsFor md ops k i || !listed.getD k true) = true)
    (hS : S listed w) (hy : ∀ w, S' w → (execOp a.eval oi).run P w = .ok (.value v) w) (hw : Region.wanted oi (yielded ops a.tmps) = true)
    (h : S (listed.setIfInBounds i true) w → wpAnyS P md ops Q S fuel (listed.setIfInBounds i true) (a.put oi.dst v) w) : wpAnyS P md ops Q S (fuel + 1) listed a w := by
  refine wpAnyS_first (S' := S') hi (Region.noSelect_spec hs) hQ hin hio fuel listed a w (Region.free_spec hi hf) (fun k hk => ?_) (by simpa using hr) (.inl ⟨hw, hy⟩) hS (h ((hio _ _).2 hS))
  obtain ⟨o', ho', _⟩ := Region.waitsFor_spec hk
  have h1 := List.all_eq_true.1 hwt k (List.mem_range.2 (Array.getElem?_eq_some_iff.1 ho').1)
  rw [hk] at h1
  simpa using h1
/-- The one that may come up comes up. -/
theorem wpAnyS_one {i : Nat} {o : Oper} {fuel : Nat} {listed : Array Bool} {a : Act} {w : World} (hr : Region.ready md ops listed = [i]) (ho : ops[i]? = some o)
    (h : ∀ K' : Act → World → Prop, Shut (∀ a w, S (listed.setIfInBounds i true) w → (S (listed.setIfInBounds i true) w → wpAnyS P md ops Q S fuel (listed.setIfInBounds i true) a w) → K' a w) →
      if Region.wanted o (yielded ops a.tmps) = true then Oper.wp P o a w K' Q else K' (a.put o.dst undef) w) : wpAnyS P md ops Q S (fuel + 1) listed a w := by
  refine ⟨fun h0 => (by rw [hr] at h0; cases h0), fun j hj => ?_⟩
  rw [hr] at hj
  have : j = i := by simpa using hj
  subst this
  exact wpOp_step ho (fun K' hK => h K' (fun a w hS hW => hK a w ⟨hS, hW hS⟩))
theorem wpAnyS_done {listed : Array Bool} {a : Act} {w : World} (hr : Region.ready md ops listed = []) (h : Q .normal a w) : ∀ fuel, wpAnyS P md ops Q S fuel listed a w
  | 0 => ⟨hr, h⟩
  | _ + 1 => ⟨fun _ => h, by rw [hr]; simp⟩
theorem wp_region_S {id : Nat} {a : Act} {w : World} (S : Array Bool → World → Prop) (hm : P.follows .mixedOrders = true) (hS : S (Array.replicate ops.size false) w.drew)
    (h : S (Array.replicate ops.size false) w.drew → wpAnyS P .any ops Q S ops.size (Array.replicate ops.size false) a w.drew) : (Code.region id ops true).wp P Q a w :=
  wp_region_any hm (wpAny_of_S _ _ _ _ (h hS))
end

/-- Each cell holds its value till number k, a store, has come up. -/
def Till (L : List (Nat × Addr × Value)) (l : Array Bool) (w : World) : Prop := ∀ x, x ∈ L → l.getD x.1 true = false → w.cell? x.2.1 = some x.2.2
theorem Till.out {L : List (Nat × Addr × Value)} {l : Array Bool} {w : World} (h : Till L l w) {k : Nat} {p : Addr} {v : Value} (hx : (k, p, v) ∈ L) (hk : l.getD k true = false) : w.cell? p = some v := h _ hx hk
theorem Till.io {L : List (Nat × Addr × Value)} {i : Nat} (h : (L.all fun x => x.1 != i) = true) (l : Array Bool) (w : World) : Till L (l.setIfInBounds i true) w ↔ Till L l w := by
  have e : ∀ x, x ∈ L → (l.setIfInBounds i true).getD x.1 true = l.getD x.1 true := fun x hx => by
    have h1 := List.all_eq_true.1 h x hx
    exact getD_set_ne true (fun e => by subst e; simp at h1)
  constructor
  · intro h x hx hk; exact h x hx ((e x hx).trans hk)
  · intro h x hx hk; exact h x hx ((e x hx).symm.trans hk)
theorem Till.two {k k' : Nat} {p p' : Addr} {v v' : Value} {l : Array Bool} {w : World} (h : w.cell? p = some v) (h' : w.cell? p' = some v') : Till [(k, p, v), (k', p', v')] l w := fun x hx _ => by
  rcases List.mem_cons.1 hx with rfl | hx
  · exact h
  · rcases List.mem_cons.1 hx with rfl | hx
    · exact h'
    · cases hx
end Go.Proofs.YtdhgiammfpjniaaGreatDoor

/- A region that draws its order: where two may come up next; the steps of a look-up, of a store into a map, by their runs. -/
namespace Go.Proofs.YtdhgiammfpjniaaGreatDoor
set_option linter.unusedSimpArgs false
set_option linter.unusedVariables false
open Go

section
variable {P : Program} {ops : Array Oper} {Q : Exit → Act → World → Prop} {md : Region.Mode} {S : Array Bool → World → Prop}
/-- Either of two comes up. -/
theorem wpAnyS_pick {i j : Nat} {oi oj : Oper} {fuel : Nat} {listed : Array Bool} {a : Act} {w : World} (hr : Region.ready md ops listed = [i, j]) (hi : ops[i]? = some oi) (hj : ops[j]? = some oj)
    (h1 : ∀ K' : Act → World → Prop, Shut (∀ a w, S (listed.setIfInBounds i true) w → (S (listed.setIfInBounds i true) w → wpAnyS P md ops Q S fuel (listed.setIfInBounds i true) a w) → K' a w) →
      if Region.wanted oi (yielded ops a.tmps) = true then Oper.wp P oi a w K' Q else K' (a.put oi.dst undef) w)
    (h2 : ∀ K' : Act → World → Prop, Shut (∀ a w, S (listed.setIfInBounds j true) w → (S (listed.setIfInBounds j true) w → wpAnyS P md ops Q S fuel (listed.setIfInBounds j true) a w) → K' a w) →
      if Region.wanted oj (yielded ops a.tmps) = true then Oper.wp P oj a w K' Q else K' (a.put oj.dst undef) w) : wpAnyS P md ops Q S (fuel + 1) listed a w := by
  refine ⟨fun h0 => (by rw [hr] at h0; cases h0), fun k hk => ?_⟩
  rw [hr] at hk
  have : k = i ∨ k = j := by simpa using hk
  rcases this with rfl | rfl
  · exact wpOp_step hi (fun K' hK => h1 K' (fun a w hS hW => hK a w ⟨hS, hW hS⟩))
  · exact wpOp_step hj (fun K' hK => h2 K' (fun a w hS hW => hK a w ⟨hS, hW hS⟩))
end
end Go.Proofs.YtdhgiammfpjniaaGreatDoor

/- A relation of a piece. -/
namespace Go.Proofs.YtdhgiammfpjniaaGreatDoor
set_option linter.unusedSimpArgs false
set_option linter.unusedVariables false
open Go.RowKit

/-- What a piece tells: a name, a comparison, a version; whether it is a relation. -/
structure Rl where
  nm : Bs
  op : Int
  ev : Bs
  ok : Bool
def relC (r : Rl) : Array Value := #[.int .i64 1, .string (mkS r.nm), .int .i64 r.op, .string (mkS r.ev), .slice none 0 0]
end Go.Proofs.YtdhgiammfpjniaaGreatDoor

/- Comparisons of versions as plain functions of lists of bytes, and that they are orders. -/
namespace Go.Proofs.YtdhgiammfpjniaaGreatDoor.Ev
set_option linter.unusedSimpArgs false
set_option linter.unusedVariables false

/-- The first that is not nought. -/
def thenC (x y : Int) : Int := if x = 0 then y else x
section
variable {α β : Type} {c d : α → α → Int}
end
/-! Bytes. -/
def isDg (c : UInt8) : Bool := decide (48 ≤ c.toNat) && decide (c.toNat ≤ 57)
def isLt (c : UInt8) : Bool := decide (97 ≤ c.toNat) && decide (c.toNat ≤ 122) || decide (65 ≤ c.toNat) && decide (c.toNat ≤ 90)
def isMay (c : UInt8) : Bool := isDg c || isLt c || decide (c ∈ [46, 95, 43, 126, 94, 45, 58])

/-! Going through two texts part by part. -/
section
variable (T : List UInt8 → List UInt8 → Int) (R : List UInt8 → List UInt8)
def through : Nat → List UInt8 → List UInt8 → Int
  | 0, _, _ => 0
  | n + 1, a, b => thenC (T a b) (through n (R a) (R b))
variable {T R}
end

/-! Rpm's texts. -/
/-! Debian's texts. -/
/-! Versions. -/
structure Parts where
  e : List UInt8
  v : List UInt8
  r : List UInt8
/-! Taking apart. -/
/-- What stands ahead of the first such byte, and behind it. -/
def cutAt (c : UInt8) (l : List UInt8) : Option (List UInt8 × List UInt8) := if c ∈ l then some (l.takeWhile (· != c), (l.dropWhile (· != c)).tail) else none
/-- What stands ahead of the last such byte, and behind it. -/
def cutLast (c : UInt8) (l : List UInt8) : Option (List UInt8 × List UInt8) := (cutAt c l.reverse).map fun p => (p.2.reverse, p.1.reverse)
def vr (e l : List UInt8) : Option Parts :=
  if 58 ∈ l then none else
  match cutLast 45 l with
  | some (v, r) => if v = [] ∨ r = [] then none else some ⟨e, v, r⟩
  | none => if l = [] then none else some ⟨e, l, []⟩
def parse (l : List UInt8) : Option Parts :=
  if l.length ≤ 60 ∧ l.all isMay = true then
    match cutAt 58 l with
    | some (e, t) => if e ≠ [] ∧ e.length ≤ 9 ∧ e.all isDg = true then vr e t else none
    | none => vr [] l
  else none
end Go.Proofs.YtdhgiammfpjniaaGreatDoor.Ev
