/- A name is taken. -/
import Derived.Test.YtoifibnmincodaaGreatDoorXt
namespace Go.Proofs.YtoifibnmincodaaGreatDoor
set_option linter.unusedSimpArgs false
set_option linter.unusedVariables false
open Go.RowKit

section
variable {w : World} {B g : Nat} {r : Bs} {v1 v2 v3 v4 : Value}
theorem nameR_big {r : Bs} (h : ¬ (0 < nameN r ∧ nameN r ≤ 60)) : nameR r = .error 100 := by unfold nameR; rw [if_neg h]
theorem nameR_take {c : UInt8} {r : Bs} (hc : r[0]? = some c) (hf : xFirst c = true) (h6 : (r.takeWhile xOf).length ≤ 60) :
    0 < (r.takeWhile xOf).length ∧ nameN r = (r.takeWhile xOf).length ∧ nameR r = .ok (r.takeWhile xOf, r.dropWhile xOf) ∧ takeR (r.takeWhile xOf).length r = .ok (r.takeWhile xOf, r.dropWhile xOf) := by
  have hn : nameN r = (r.takeWhile xOf).length := by rw [nameN_first c hc, if_pos hf]
  have hp : 0 < (r.takeWhile xOf).length := by
    cases r with
    | nil => cases hc
    | cons b t =>
      injection hc with hc; subst hc
      rw [List.takeWhile_cons, if_pos (by unfold xOf; rw [hf]; simp)]
      simp
  have ht : takeR (r.takeWhile xOf).length r = .ok (r.takeWhile xOf, r.dropWhile xOf) := by
    unfold takeR
    rw [← take_of_while, ← drop_of_while, if_pos (while_may r)]
  refine ⟨hp, hn, ?_, ht⟩
  unfold nameR
  rw [hn, if_pos ⟨hp, h6⟩, ht]
set_option maxHeartbeats 2000000 in
set_option maxRecDepth 100000 in
theorem name_any (h : RdB w g r v1 v2 v3 v4) (hr : r.length ≤ 40000) :
    Calls Tryz.prog 59 #[.pointer (some ⟨g, 0, none⟩)] w (Ate w g v1 v2 v3 v4 (nameR r) sV) := by
  have HR := Lib.hid h
  have CX := Lib.hid (must_no 100)
  have CY := Lib.hid (must_yes 100)
  have c0 := Blk.cell h 0
  simp at c0
  cases hrc : r with
  | nil =>
    have HE : Hid (nameR r = .error 100) := nameR_big (by rw [hrc]; simp [nameN])
    rw [← hrc]
    have hemp : (mkS r).toList.isEmpty = true := by rw [isEmpty_mkS, hrc]; rfl
    clear hrc h hr
    generalize nameR r = res at *
    generalize mkS r = S at *
    go_enter Tryz.func59, Tryz.ntmps59
    go_wp2_with fail
    refine (CX.out _).mono ?_
    rintro e w2 ⟨rfl, rfl⟩
    unfold gaveUp
    go_wp2_with fail
    exact ⟨rfl, Ate.mkNo (Turned.refl _ _) HR.out HE.out⟩
  | cons c t =>
    have hc : r[0]? = some c := by rw [hrc]; rfl
    rw [← hrc]
    have hemp : (mkS r).toList.isEmpty = false := by rw [isEmpty_mkS, hrc]; rfl
    have h0 : 0 < (mkS r).size := by rw [mkS_size, hrc]; simp
    have h00 : (mkS r)[0]'h0 = c := by
      have := byte_at h0
      rw [mkS_list, hc] at this
      injection this with this; exact this.symm
    have CF := Lib.hid (isFirst_any c)
    have CS := Lib.hid (fun w => span_of (mkS r) (by rw [mkS_size]; unfold maxLen; omega) w)
    rw [mkS_list] at CS
    have CT := Lib.hid (take_any h (r.takeWhile xOf).length (while_le r) hr)
    clear hrc
    cases hf : xFirst c with
    | false =>
      have HE : Hid (nameR r = .error 100) := nameR_big (by rw [nameN_first c hc, hf]; simp)
      rw [hf] at CF
      clear hc h hr hf CT CS
      generalize nameR r = res at *
      generalize mkS r = S at *
      go_enter Tryz.func59, Tryz.ntmps59
      go_wp2_with fail
      refine (CF.out _).mono ?_
      rintro e w2 ⟨rfl, rfl⟩
      go_wp2_with fail
      refine (CX.out _).mono ?_
      rintro e w2 ⟨rfl, rfl⟩
      unfold gaveUp
      go_wp2_with fail
      exact ⟨rfl, Ate.mkNo (Turned.refl _ _) HR.out HE.out⟩
    | true =>
      rw [hf] at CF
      by_cases h6 : (r.takeWhile xOf).length ≤ 60
      · obtain ⟨hp, hn, he, ht⟩ := nameR_take hc hf h6
        have HE := Lib.hid he
        have HT := Lib.hid ht
        have CC := Lib.hid (fun w => clone_any (mkS (r.takeWhile xOf)) w (by rw [mkS_size]; omega))
        clear he ht hn hc h hr hf
        generalize nameR r = res at *
        generalize r.dropWhile xOf = D at *
        generalize hL : (r.takeWhile xOf).length = n at *
        clear hL
        generalize r.takeWhile xOf = T at *
        generalize takeR n r = res2 at *
        generalize mkS r = S at *
        have hq1 : (0 : Int) < (n : Int) := by omega
        have hq2 : (n : Int) ≤ 60 := by omega
        clear hp h6
        go_enter Tryz.func59, Tryz.ntmps59
        go_wp2_with fail
        refine (CF.out _).mono ?_
        rintro e w2 ⟨rfl, rfl⟩
        go_wp2_with fail
        refine (CS.out _).mono ?_
        rintro e w2 ⟨rfl, rfl⟩
        go_wp2_with fail
        refine (CY.out _).mono ?_
        rintro e w2 ⟨rfl, rfl⟩
        go_wp2_with fail
        refine CT.out.mono ?_
        intro e w3 ha
        obtain ⟨h1, h2, rfl⟩ := ha.ok HT.out
        have H1 := Lib.hid h1
        have H2 := Lib.hid h2
        clear ha h1 h2
        unfold sV
        go_wp2_with fail
        refine (CC.out _).mono ?_
        rintro e w4 ⟨rfl, hb⟩
        obtain ⟨h1, h2⟩ := RdB.later H2.out hb
        have H3 := Lib.hid h1
        have H4 := Lib.hid (H1.out.trans h2 (frG _ _))
        clear hb h1 h2
        go_wp2_with fail
        go_ret
        exact Ate.mkOk H4.out H3.out HE.out
      · have HE : Hid (nameR r = .error 100) := nameR_big (by rw [nameN_first c hc, hf]; simp; omega)
        clear hc h hr hf CT
        generalize nameR r = res at *
        generalize (r.takeWhile xOf).length = n at *
        generalize mkS r = S at *
        have hq1 : (0 : Int) < (n : Int) := by omega
        have hq2 : ¬ (n : Int) ≤ 60 := by omega
        have hq3 : decide ((n : Int) ≤ 60) = false := decide_eq_false hq2
        clear h6
        go_enter Tryz.func59, Tryz.ntmps59
        go_wp2_with fail
        refine (CF.out _).mono ?_
        rintro e w2 ⟨rfl, rfl⟩
        go_wp2_with fail
        refine (CS.out _).mono ?_
        rintro e w2 ⟨rfl, rfl⟩
        go_wp2_with fail
        refine (CX.out _).mono ?_
        rintro e w2 ⟨rfl, rfl⟩
        unfold gaveUp
        go_wp2_with fail
        exact ⟨rfl, Ate.mkNo (Turned.refl _ _) HR.out HE.out⟩
end
end Go.Proofs.YtoifibnmincodaaGreatDoor
