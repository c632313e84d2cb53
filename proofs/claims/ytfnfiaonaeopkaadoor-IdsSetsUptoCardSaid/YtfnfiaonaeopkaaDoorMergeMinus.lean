/- The contract of ids.Minus: the numbers of two lists that stay. -/
import Derived.Test.YtfnfiaonaeopkaaDoorMergeP
import Derived.Test.YtfnfiaonaeopkaaDoorSortW
import Derived.Test.YtfnfiaonaeopkaaDoorLists3
import Derived.Deep.QuietTactic
import Derived.BigQuiet
namespace Go.Proofs.YtfnfiaonaeopkaaDoor.old
set_option linter.unusedSimpArgs false
set_option linter.unusedVariables false
open Go.RowKit Go.Sort

def fMinus (p q : Bool) : Bool := p && !q
theorem cMinus_any (p q : Bool) (w : World) : Calls Tryd.prog 25 #[.bool p, .bool q] w (BoolPost w (fMinus p q)) := by
  cases p <;> cases q <;>
  · go_enter Tryd.func25, Tryd.ntmps25
    go_wp2
    go_ret
    exact ⟨rfl, rfl⟩

set_option maxHeartbeats 4000000 in
set_option maxRecDepth 100000 in
theorem mergeMinus_any (A A' : Option Addr) (c c' B n m : Nat) (xs ys : List Int) (w : World) (hl : xs.length = n) (hl' : ys.length = m) (hn : n ≤ 4194304) (hm : m ≤ 4194304) (hB : B ≤ w.heap.size) (hr : Rd w B A (i64s xs)) (hr' : Rd w B A' (i64s ys)) :
    Calls Tryd.prog 24 #[.slice A n c, .slice A' m c', .func (.func 25) #[] #[]] w (Lst w (mrg fMinus xs ys)) := by
  have hsa := srt_len xs
  have hsb := srt_len ys
  have hra := srt_rise xs
  have hrb := srt_rise ys
  have C1 := Lib.hid (sort_any A n c B xs w hl (by omega) hr)
  have HR' := Lib.hid hr'
  have HL := Lib.hid hl
  have HL' := Lib.hid hl'
  rw [hl] at hsa
  rw [hl'] at hsb
  have hfin : ∀ out, Inv fMinus (srt xs) (srt ys) out [] [] → out = mrg fMinus xs ys := fun out h => h.fin
  have hst := Inv.start (f := fMinus) hra hrb
  have HSA := Lib.hid hsa
  have HSB := Lib.hid hsb
  have HF := Lib.hid hfin
  have HS := Lib.hid hst
  clear hr hr' hl hl' hsa hsb hfin hst hra hrb
  go_enter Tryd.func24, Tryd.ntmps24
  go_wp2_with fail
  refine C1.out.mono ?_
  rintro e w1 ⟨v1, rfl, hown1, hb1⟩
  obtain ⟨_, A1, c1, rfl, hc1, hm1⟩ := own_form hown1
  have C2 := Lib.hid (sort_any A' m c' B ys w1 HL'.out (by omega) (HR'.out.below hb1 hB))
  have hs1 := hb1.size
  have HW1 := Lib.hid (Rd.own hown1)
  clear C1 hown1
  go_wp2_with fail
  refine C2.out.mono ?_
  rintro e w2 ⟨v2, rfl, hown2, hb2⟩
  obtain ⟨_, A2, c2, rfl, hc2, hm2⟩ := own_form hown2
  have hs2 := hb2.size
  have HW1 := Lib.hid ((HW1.out.below hb2 (Nat.le_refl _)).more hs2)
  have HW2 := Lib.hid (Rd.own hown2)
  have hb := hb1.trans (hb2.mono hs1)
  clear C2 hown2 hb1 hb2 HR' HL HL'
  generalize srt xs = sa at *
  generalize srt ys = sb at *
  go_wp2_with fail
  go_loopw [0, 1, 7] (fun va vb vo wr => ∃ (P Q : Option Addr) (p q cp cq o : Nat) (la lb L : List Int), va = .slice P p cp ∧ vb = .slice Q q cq ∧ p ≤ cp ∧ q ≤ cq ∧ cp ≤ maxLen ∧ cq ≤ maxLen ∧ o ≤ 8388608 ∧ p ≤ n ∧ q ≤ m ∧ Hid (la.length = p) ∧ Hid (lb.length = q) ∧ Hid (L.length = o) ∧
      Hid (Rd w2 w2.heap.size P (i64s la)) ∧ Hid (Rd w2 w2.heap.size Q (i64s lb)) ∧ Hid (wr.ownsRow w2.heap.size 3 1 vo o (i64s L)) ∧ Hid (Inv fMinus sa sb L la lb) ∧ Below w2.heap.size w2 wr)
    (fun va vb _ _ => lenOf va + lenOf vb)
  case atStart => exact ⟨A1, A2, _, _, c1, c2, 0, sa, sb, [], rfl, rfl, hc1, hc2, hm1, hm2, by omega, HSA.out, HSB.out, rfl, rfl, rfl, HW1.out, HW2.out, World.ownsRow_nil _ _ _ _, HS.out, Below.refl _ _⟩
  case round =>
    obtain ⟨P, Q, p, q, cp, cq, o, la, lb, L, rfl, rfl, hpc, hqc, hcp, hcq, ho, hpn, hqm, hlp, hlq, hlo, hrp, hrq, hown, hinv, hbel⟩ := hrel
    have hs := hbel.size
    unfold maxLen at hcp hcq
    clear hm1 hm2 hc1 hc2 HS HW1 HW2
    cases la with
    | nil =>
      cases lb with
      | nil =>
        have hp0 : p = 0 := by have := hlp.out; simpa using this.symm
        have hq0 : q = 0 := by have := hlq.out; simpa using this.symm
        subst hp0
        subst hq0
        have HE := Lib.hid (HF.out L hinv.out)
        go_wp2_with fail
        go_ret
        refine lst_own (m := o) ?_ (hb.trans (hbel.mono (by omega)))
        rw [← HE.out]
        exact own_base hown.out (by omega)
      | cons x lb =>
        have hstep := hinv.out.stepB (x := x) (b := lb) (fun y hy => by cases hy)
        have hp0 : p = 0 := by have := hlp.out; simpa using this.symm
        subst hp0
        have hq1 : q = lb.length + 1 := by have := hlq.out; simpa using this.symm
        subst hq1
        obtain ⟨b', off', hQ, hbQ, hcB⟩ := hrq.out 0 (.int .i64 x) rfl
        subst hQ
        have hcB := (World.cell?_of_block (a := ⟨b', off', none⟩) (hbel.block b' hbQ)).trans hcB
        have HRQ := Lib.hid (rd_tail hrq.out)
        have HRQ1 := Lib.hid (rd_one (w := w2) (B := w2.heap.size) (c := cq) hqc)
        have ib0 : (0 : Int) < ((lb.length + 1 : Nat) : Int) := by omega
        have ib1 : (1 : Int) ≤ ((lb.length + 1 : Nat) : Int) := by omega
        have ib2 : ((lb.length + 1 : Nat) : Int) ≤ (cq : Int) := by omega
        have ib3 : ((lb.length : Int) + 1 == 0) = false := by simp; omega
        have CC : ∀ W : World, Calls Tryd.prog 25 #[.bool false, .bool true] W (BoolPost W false) := fun W => cMinus_any false true W
        have HC := Lib.hid CC
        have HI := Lib.hid (show Inv fMinus sa sb L [] lb from hstep)
        have HO := Lib.hid (hinv.out.out_len)
        clear CC hstep hinv  
        go_wp2_with fail
        go_quiet (fail)
        go_wp2_with fail
        go_quiet (fail)
        go_wp2_with fail
        go_quiet (fail)
        all_goals go_wp2_with fail
        all_goals
          refine (HC.out _).mono ?_
          rintro e w3 ⟨rfl, rfl⟩
          go_wp2_with fail
          go_roundw
          case rel => go_light; exact ⟨_, _, _, _, _, _, o, _, _, L, rfl, rfl, by omega, by omega, by unfold maxLen; omega, by unfold maxLen; omega, by omega, by omega, by omega, hlp.out, (by first | rfl | (show _ = _; simp; done) | (show _ = _; omega)), hlo.out, hrp.out, (by first | exact HRQ.out | exact HRQ1.out (by assumption) _), own_drewN hown.out _, HI.out, below_drewN hbel _⟩
          case measure => go_light; simp only [lenOf]; omega
    | cons x la =>
      cases lb with
      | nil =>
        have hstep := hinv.out.stepA (x := x) (a := la) (fun y hy => by cases hy)
        have hp1 : p = la.length + 1 := by have := hlp.out; simpa using this.symm
        subst hp1
        obtain ⟨b, off, hP, hbP, hcA⟩ := hrp.out 0 (.int .i64 x) rfl
        subst hP
        have hcA := (World.cell?_of_block (a := ⟨b, off, none⟩) (hbel.block b hbP)).trans hcA
        have HRP := Lib.hid (rd_tail hrp.out)
        have HRP1 := Lib.hid (rd_one (w := w2) (B := w2.heap.size) (c := cp) hpc)
        have ia0 : (0 : Int) < ((la.length + 1 : Nat) : Int) := by omega
        have ia1 : (1 : Int) ≤ ((la.length + 1 : Nat) : Int) := by omega
        have ia2 : ((la.length + 1 : Nat) : Int) ≤ (cp : Int) := by omega
        have ia3 : ((la.length : Int) + 1 == 0) = false := by simp; omega
        have hq0 : q = 0 := by have := hlq.out; simpa using this.symm
        subst hq0
        have CC : ∀ W : World, Calls Tryd.prog 25 #[.bool true, .bool false] W (BoolPost W true) := fun W => cMinus_any true false W
        have HC := Lib.hid CC
        have HI := Lib.hid (show Inv fMinus sa sb (L ++ [x]) la [] from hstep)
        have HO := Lib.hid (hinv.out.out_len)
        clear CC hstep hinv  
        go_wp2_with fail
        go_quiet (fail)
        go_wp2_with fail
        go_quiet (fail)
        go_wp2_with fail
        all_goals go_quiet (fail)
        all_goals go_wp2_with fail
        all_goals
          refine (HC.out _).mono ?_
          rintro e w3 ⟨rfl, rfl⟩
          go_wp2_with (at_builtin; go_must (refine app64 rfl _ _ rfl w2.heap.size _ o L rfl (World.ownsRow.alloc (own_drewN hown.out _) _) (wr.heap.size + 1) _ 1 1 [x] rfl rfl (by exact Rd.new1 _ _ _) (by omega) (by simp; omega) ?_); intro v4 w4 hown4 hb4)
          have hb5 : Below w2.heap.size w2 w4 := ((below_drewN hbel _).alloc hs _).trans hb4
          have HO4 := Lib.hid hown4
          have HLL := Lib.hid (show (L ++ [x]).length = o + 1 by have := hlo.out; simp; omega)
          have HOB := Lib.hid HI.out.out_len
          clear hown4 hb4 hown HC
          go_roundw
          case rel => go_light; exact ⟨_, _, _, _, _, _, o + 1, _, _, L ++ [x], rfl, rfl, by omega, by omega, by unfold maxLen; omega, by unfold maxLen; omega, by have := HOB.out; have := HLL.out; have := HSA.out; have := HSB.out; omega, by omega, by omega, (by first | rfl | (show _ = _; simp; done) | (show _ = _; omega)), hlq.out, HLL.out, (by first | exact HRP.out | exact HRP1.out (by assumption) _), hrq.out, HO4.out, HI.out, hb5⟩
          case measure => go_light; simp only [lenOf]; omega
      | cons y lb =>
        by_cases hxy : x < y
        · have hstep := hinv.out.stepA (head_lt hinv.out.rb hxy)
          have hd1 : x ≤ y := by omega
          have hd2 : decide (y ≤ x) = false := by simp; omega
          clear hxy
          have hp1 : p = la.length + 1 := by have := hlp.out; simpa using this.symm
          subst hp1
          obtain ⟨b, off, hP, hbP, hcA⟩ := hrp.out 0 (.int .i64 x) rfl
          subst hP
          have hcA := (World.cell?_of_block (a := ⟨b, off, none⟩) (hbel.block b hbP)).trans hcA
          have HRP := Lib.hid (rd_tail hrp.out)
          have HRP1 := Lib.hid (rd_one (w := w2) (B := w2.heap.size) (c := cp) hpc)
          have ia0 : (0 : Int) < ((la.length + 1 : Nat) : Int) := by omega
          have ia1 : (1 : Int) ≤ ((la.length + 1 : Nat) : Int) := by omega
          have ia2 : ((la.length + 1 : Nat) : Int) ≤ (cp : Int) := by omega
          have ia3 : ((la.length : Int) + 1 == 0) = false := by simp; omega
          have hq1 : q = lb.length + 1 := by have := hlq.out; simpa using this.symm
          subst hq1
          obtain ⟨b', off', hQ, hbQ, hcB⟩ := hrq.out 0 (.int .i64 y) rfl
          subst hQ
          have hcB := (World.cell?_of_block (a := ⟨b', off', none⟩) (hbel.block b' hbQ)).trans hcB
          have HRQ := Lib.hid (rd_tail hrq.out)
          have HRQ1 := Lib.hid (rd_one (w := w2) (B := w2.heap.size) (c := cq) hqc)
          have ib0 : (0 : Int) < ((lb.length + 1 : Nat) : Int) := by omega
          have ib1 : (1 : Int) ≤ ((lb.length + 1 : Nat) : Int) := by omega
          have ib2 : ((lb.length + 1 : Nat) : Int) ≤ (cq : Int) := by omega
          have ib3 : ((lb.length : Int) + 1 == 0) = false := by simp; omega
          have CC : ∀ W : World, Calls Tryd.prog 25 #[.bool true, .bool false] W (BoolPost W true) := fun W => cMinus_any true false W
          have HC := Lib.hid CC
          have HI := Lib.hid (show Inv fMinus sa sb (L ++ [x]) la (y :: lb) from hstep)
          have HO := Lib.hid (hinv.out.out_len)
          clear CC hstep hinv  
          go_wp2_with fail
          go_quiet (fail)
          go_wp2_with fail
          go_quiet (fail)
          go_wp2_with fail
          all_goals go_quiet (fail)
          all_goals go_wp2_with fail
          all_goals
            refine (HC.out _).mono ?_
            rintro e w3 ⟨rfl, rfl⟩
            go_wp2_with (at_builtin; go_must (refine app64 rfl _ _ rfl w2.heap.size _ o L rfl (World.ownsRow.alloc (own_drewN hown.out _) _) (wr.heap.size + 1) _ 1 1 [x] rfl rfl (by exact Rd.new1 _ _ _) (by omega) (by simp; omega) ?_); intro v4 w4 hown4 hb4)
            have hb5 : Below w2.heap.size w2 w4 := ((below_drewN hbel _).alloc hs _).trans hb4
            have HO4 := Lib.hid hown4
            have HLL := Lib.hid (show (L ++ [x]).length = o + 1 by have := hlo.out; simp; omega)
            have HOB := Lib.hid HI.out.out_len
            clear hown4 hb4 hown HC
            go_roundw
            case rel => go_light; exact ⟨_, _, _, _, _, _, o + 1, _, _, L ++ [x], rfl, rfl, by omega, by omega, by unfold maxLen; omega, by unfold maxLen; omega, by have := HOB.out; have := HLL.out; have := HSA.out; have := HSB.out; omega, by omega, by omega, (by first | rfl | (show _ = _; simp; done) | (show _ = _; omega)), hlq.out, HLL.out, (by first | exact HRP.out | exact HRP1.out (by assumption) _), hrq.out, HO4.out, HI.out, hb5⟩
            case measure => go_light; simp only [lenOf]; omega
        · by_cases hyx : y < x
          · have hstep := hinv.out.stepB (head_lt hinv.out.ra hyx)
            have hd1 : y ≤ x := by omega
            have hd2 : decide (x ≤ y) = false := by simp; omega
            clear hxy hyx
            have hp1 : p = la.length + 1 := by have := hlp.out; simpa using this.symm
            subst hp1
            obtain ⟨b, off, hP, hbP, hcA⟩ := hrp.out 0 (.int .i64 x) rfl
            subst hP
            have hcA := (World.cell?_of_block (a := ⟨b, off, none⟩) (hbel.block b hbP)).trans hcA
            have HRP := Lib.hid (rd_tail hrp.out)
            have HRP1 := Lib.hid (rd_one (w := w2) (B := w2.heap.size) (c := cp) hpc)
            have ia0 : (0 : Int) < ((la.length + 1 : Nat) : Int) := by omega
            have ia1 : (1 : Int) ≤ ((la.length + 1 : Nat) : Int) := by omega
            have ia2 : ((la.length + 1 : Nat) : Int) ≤ (cp : Int) := by omega
            have ia3 : ((la.length : Int) + 1 == 0) = false := by simp; omega
            have hq1 : q = lb.length + 1 := by have := hlq.out; simpa using this.symm
            subst hq1
            obtain ⟨b', off', hQ, hbQ, hcB⟩ := hrq.out 0 (.int .i64 y) rfl
            subst hQ
            have hcB := (World.cell?_of_block (a := ⟨b', off', none⟩) (hbel.block b' hbQ)).trans hcB
            have HRQ := Lib.hid (rd_tail hrq.out)
            have HRQ1 := Lib.hid (rd_one (w := w2) (B := w2.heap.size) (c := cq) hqc)
            have ib0 : (0 : Int) < ((lb.length + 1 : Nat) : Int) := by omega
            have ib1 : (1 : Int) ≤ ((lb.length + 1 : Nat) : Int) := by omega
            have ib2 : ((lb.length + 1 : Nat) : Int) ≤ (cq : Int) := by omega
            have ib3 : ((lb.length : Int) + 1 == 0) = false := by simp; omega
            have CC : ∀ W : World, Calls Tryd.prog 25 #[.bool false, .bool true] W (BoolPost W false) := fun W => cMinus_any false true W
            have HC := Lib.hid CC
            have HI := Lib.hid (show Inv fMinus sa sb L (x :: la) lb from hstep)
            have HO := Lib.hid (hinv.out.out_len)
            clear CC hstep hinv  
            go_wp2_with fail
            go_quiet (fail)
            go_wp2_with fail
            go_quiet (fail)
            go_wp2_with fail
            go_quiet (fail)
            all_goals go_wp2_with fail
            all_goals
              refine (HC.out _).mono ?_
              rintro e w3 ⟨rfl, rfl⟩
              go_wp2_with fail
              go_roundw
              case rel => go_light; exact ⟨_, _, _, _, _, _, o, _, _, L, rfl, rfl, by omega, by omega, by unfold maxLen; omega, by unfold maxLen; omega, by omega, by omega, by omega, hlp.out, (by first | rfl | (show _ = _; simp; done) | (show _ = _; omega)), hlo.out, hrp.out, (by first | exact HRQ.out | exact HRQ1.out (by assumption) _), own_drewN hown.out _, HI.out, below_drewN hbel _⟩
              case measure => go_light; simp only [lenOf]; omega
          · have hyy : y = x := by omega
            subst hyy
            have hstep := hinv.out.stepAB
            have hd1 : y ≤ y := by omega
            clear hxy hyx
            have hp1 : p = la.length + 1 := by have := hlp.out; simpa using this.symm
            subst hp1
            obtain ⟨b, off, hP, hbP, hcA⟩ := hrp.out 0 (.int .i64 y) rfl
            subst hP
            have hcA := (World.cell?_of_block (a := ⟨b, off, none⟩) (hbel.block b hbP)).trans hcA
            have HRP := Lib.hid (rd_tail hrp.out)
            have HRP1 := Lib.hid (rd_one (w := w2) (B := w2.heap.size) (c := cp) hpc)
            have ia0 : (0 : Int) < ((la.length + 1 : Nat) : Int) := by omega
            have ia1 : (1 : Int) ≤ ((la.length + 1 : Nat) : Int) := by omega
            have ia2 : ((la.length + 1 : Nat) : Int) ≤ (cp : Int) := by omega
            have ia3 : ((la.length : Int) + 1 == 0) = false := by simp; omega
            have hq1 : q = lb.length + 1 := by have := hlq.out; simpa using this.symm
            subst hq1
            obtain ⟨b', off', hQ, hbQ, hcB⟩ := hrq.out 0 (.int .i64 y) rfl
            subst hQ
            have hcB := (World.cell?_of_block (a := ⟨b', off', none⟩) (hbel.block b' hbQ)).trans hcB
            have HRQ := Lib.hid (rd_tail hrq.out)
            have HRQ1 := Lib.hid (rd_one (w := w2) (B := w2.heap.size) (c := cq) hqc)
            have ib0 : (0 : Int) < ((lb.length + 1 : Nat) : Int) := by omega
            have ib1 : (1 : Int) ≤ ((lb.length + 1 : Nat) : Int) := by omega
            have ib2 : ((lb.length + 1 : Nat) : Int) ≤ (cq : Int) := by omega
            have ib3 : ((lb.length : Int) + 1 == 0) = false := by simp; omega
            have CC : ∀ W : World, Calls Tryd.prog 25 #[.bool true, .bool true] W (BoolPost W false) := fun W => cMinus_any true true W
            have HC := Lib.hid CC
            have HI := Lib.hid (show Inv fMinus sa sb L la lb from hstep)
            have HO := Lib.hid (hinv.out.out_len)
            clear CC hstep hinv  
            go_wp2_with fail
            go_quiet (fail)
            go_wp2_with fail
            go_quiet (fail)
            go_wp2_with fail
            go_quiet (fail)
            all_goals go_wp2_with fail
            all_goals go_quiet (fail)
            all_goals go_wp2_with fail
            all_goals
              refine (HC.out _).mono ?_
              rintro e w3 ⟨rfl, rfl⟩
              go_wp2_with fail
              go_roundw
              case rel => go_light; exact ⟨_, _, _, _, _, _, o, _, _, L, rfl, rfl, by omega, by omega, by unfold maxLen; omega, by unfold maxLen; omega, by omega, by omega, by omega, (by first | rfl | (show _ = _; simp; done) | (show _ = _; omega)), (by first | rfl | (show _ = _; simp; done) | (show _ = _; omega)), hlo.out, (by first | exact HRP.out | exact HRP1.out (by assumption) _), (by first | exact HRQ.out | exact HRQ1.out (by assumption) _), own_drewN hown.out _, HI.out, below_drewN hbel _⟩
              case measure => go_light; simp only [lenOf]; omega
end Go.Proofs.YtfnfiaonaeopkaaDoor.old
