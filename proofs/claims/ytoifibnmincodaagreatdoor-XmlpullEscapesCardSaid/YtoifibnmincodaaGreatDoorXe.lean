/- An entity is taken. -/
import Derived.Test.YtoifibnmincodaaGreatDoorXc
namespace Go.Proofs.YtoifibnmincodaaGreatDoor
set_option linter.unusedSimpArgs false
set_option linter.unusedVariables false
open Go.RowKit

section
variable {w : World} {B g : Nat} {r : Bs} {v1 v2 v3 v4 : Value}
def rV (n : Nat) : Value := .int .i32 (n : Int)
theorem cut1_len (l : Bs) : (Lib.cut l [59]).1.length ≤ l.length := by
  unfold Lib.cut
  split
  · show (l.take _).length ≤ _; simp; omega
  · exact Nat.le_refl _
theorem entityR_eq (l : Bs) : entityR l = if (Lib.cut l [59]).2.2 = true then (match charR (Lib.cut l [59]).1 with
    | some c => .ok (c, (Lib.cut l [59]).2.1)
    | none => .error 103) else .error 103 := rfl
theorem entityR_no {l : Bs} (h : (Lib.cut l [59]).2.2 = false) : entityR l = .error 103 := by rw [entityR_eq, h]; rfl
theorem entityR_none {l : Bs} (h : charR (Lib.cut l [59]).1 = none) : entityR l = .error 103 := by
  rw [entityR_eq, h]
  split <;> rfl
theorem entityR_some {l : Bs} (h : (Lib.cut l [59]).2.2 = true) {c : Nat} (hc : charR (Lib.cut l [59]).1 = some c) : entityR l = .ok (c, (Lib.cut l [59]).2.1) := by rw [entityR_eq, h, hc]; rfl
set_option maxHeartbeats 2000000 in
set_option maxRecDepth 100000 in
theorem entity_any (h : RdB w g r v1 v2 v3 v4) (hE : XEnv B w) (hr : r.length ≤ 40000) :
    Calls Tryz.prog 57 #[.pointer (some ⟨g, 0, none⟩)] w (Ate w g v1 v2 v3 v4 (entityR r) rV) := by
  obtain ⟨m, hm⟩ := hE.max
  have C := Lib.hid (Tryz.strings_Cut (mkS r) (mkS [59]) m w (by rw [mkS_size]; omega) hm)
  rw [show (mkS r).data.toList = r from rfl, show (mkS [59]).data.toList = [59] from rfl] at C
  have hl := cut1_len r
  have CC := Lib.hid (fun n => character_any (Lib.cut r [59]).1 (by omega) (hE.below ((below_drewN' (Below.refl w.heap.size w) n))))
  have HR := Lib.hid h
  have CY := Lib.hid (must_yes 103)
  have CX := Lib.hid (must_no 103)
  have c0 := Blk.cell h 0
  simp at c0
  have hno := Lib.hid (@entityR_no r)
  have hnone := Lib.hid (@entityR_none r)
  have hsome := Lib.hid (@entityR_some r)
  clear hm hE h hl hr
  have e59 : mkS [59] = ⟨#[59]⟩ := rfl
  rw [e59] at C
  clear e59
  generalize entityR r = res at *
  generalize (Lib.cut r [59]).1 = nm at *
  generalize (Lib.cut r [59]).2.1 = rest at *
  generalize (Lib.cut r [59]).2.2 = cl at *
  generalize charR nm = ch at *
  have HV : Hid (∀ w3, Turned [g] w w3 → RdB w3 g r v1 v2 v3 v4 → Turned [g] w (w3.setCell ⟨g, 0, none⟩ (.string (mkS rest))) ∧ RdB (w3.setCell ⟨g, 0, none⟩ (.string (mkS rest))) g rest v1 v2 v3 v4) := fun w3 ht hr => ⟨ht.setCell (.inl (by simp)) _, hr.set_ _⟩
  unfold mkS at C CC
  go_enter Tryz.func57, Tryz.ntmps57
  go_wp2_with fail
  refine C.out.mono ?_
  rintro e w1 ⟨rfl, n, rfl⟩
  have CC1 := Lib.hid (CC.out n)
  clear C CC
  go_wp2_with fail
  refine CC1.out.mono ?_
  rintro e w2 ⟨rfl, hb⟩
  have hb2 : Below w.heap.size w w2 := (below_drewN' (Below.refl w.heap.size w) n).trans hb
  obtain ⟨h1, h2⟩ := RdB.later HR.out hb2
  have H1 := Lib.hid h1
  have H2 := Lib.hid h2
  have c1 := Blk.cell h1 0
  have f1 := Blk.free h1 0
  simp at c1
  clear hb hb2 h1 h2 CC1
  cases ch with
  | none =>
    have HE : Hid (res = .error 103) := hnone.out rfl
    cases cl
    all_goals
      unfold chV
      go_wp2_with fail
      refine (CX.out _).mono ?_
      rintro e w3 ⟨rfl, rfl⟩
      unfold gaveUp
      go_wp2_with fail
      exact ⟨rfl, Ate.mkNo H2.out H1.out HE.out⟩
  | some c =>
    cases cl with
    | false =>
      have HE : Hid (res = .error 103) := hno.out rfl
      unfold chV
      go_wp2_with fail
      refine (CX.out _).mono ?_
      rintro e w3 ⟨rfl, rfl⟩
      unfold gaveUp
      go_wp2_with fail
      exact ⟨rfl, Ate.mkNo H2.out H1.out HE.out⟩
    | true =>
      have HE : Hid (res = .ok (c, rest)) := hsome.out rfl rfl
      have HV2 := Lib.hid (HV.out w2 H2.out H1.out)
      unfold mkS at HV2
      unfold chV
      go_wp2_with fail
      refine (CY.out _).mono ?_
      rintro e w3 ⟨rfl, rfl⟩
      go_wp2_with fail
      go_ret
      exact Ate.mkOk HV2.out.1 HV2.out.2 HE.out
end
end Go.Proofs.YtoifibnmincodaaGreatDoor
