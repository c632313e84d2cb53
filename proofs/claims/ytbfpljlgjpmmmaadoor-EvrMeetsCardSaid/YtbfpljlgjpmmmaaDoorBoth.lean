/- Two versions' parts: splitBoth. -/
import Derived.Test.YtbfpljlgjpmmmaaDoorParse
namespace Go.Proofs.YtbfpljlgjpmmmaaDoor
set_option linter.unusedSimpArgs false
set_option linter.unusedVariables false
open Go.RowKit

def kindB (kind : Int) : Bool := decide (kind = 1 ∨ kind = 2)
def opB (op : Int) : Bool := decide (0 ≤ op ∧ op ≤ 7)
set_option maxRecDepth 100000 in
theorem isKind_any (k : Int) (w : World) : Calls Tryd.prog 30 #[.int .i64 k] w fun e w' => e = .returned (.bool (kindB k)) ∧ w = w' := by
  have HK := Lib.hid (show kindB k = decide (k = 1 ∨ k = 2) from rfl)
  generalize kindB k = b at *
  by_cases h1 : k = 1
  · subst h1
    go_enter Tryd.func30, Tryd.ntmps30
    go_wp2_with fail
    go_ret
    exact ⟨ret_bool (by rw [HK.out]; rfl), rfl⟩
  · have t1 : (k == 1) = false := by simpa using h1
    by_cases h2 : k = 2
    · subst h2
      clear h1 t1
      go_enter Tryd.func30, Tryd.ntmps30
      go_wp2_with fail
      go_ret
      exact ⟨ret_bool (by rw [HK.out]; rfl), rfl⟩
    · have t2 : (k == 2) = false := by simpa using h2
      have HF := Lib.hid (show decide (k = 1 ∨ k = 2) = false by simp [h1, h2])
      clear h1 h2
      go_enter Tryd.func30, Tryd.ntmps30
      go_wp2_with fail
      go_ret
      exact ⟨ret_bool (by rw [HK.out, HF.out]), rfl⟩
set_option maxRecDepth 100000 in
theorem isOp_any (k : Int) (w : World) : Calls Tryd.prog 31 #[.int .i64 k] w fun e w' => e = .returned (.bool (opB k)) ∧ w = w' := by
  have HK := Lib.hid (show opB k = (decide (0 ≤ k) && decide (k ≤ 7)) by unfold opB; rw [Bool.eq_iff_iff]; simp)
  generalize opB k = b at *
  go_enter Tryd.func31, Tryd.ntmps31
  go_wp2_with fail
  all_goals
    go_ret
    refine ⟨ret_bool ?_, rfl⟩
    rw [HK.out, Bool.eq_iff_iff]
    simp <;> omega

def bothErr (kind : Int) (A B : Option Parts) : Int := if kindB kind then (if A.isSome && B.isSome then 0 else 30) else 1
def BothPost (w0 : World) (kind : Int) (A B : Option Parts) (e : Ending) (w : World) : Prop :=
  e = .returned (.tuple #[evrV (if bothErr kind A B = 0 then A else none), evrV (if bothErr kind A B = 0 then B else none), .int .i64 (bothErr kind A B)]) ∧ Below w0.heap.size w0 w
theorem BothPost.bad {w0 w : World} {kind x : Int} {A B : Option Parts} (h : bothErr kind A B = x) (hx : x ≠ 0) (hb : Below w0.heap.size w0 w) : BothPost w0 kind A B (.returned (.tuple #[.agg #[.string ⟨#[]⟩, .string ⟨#[]⟩, .string ⟨#[]⟩], .agg #[.string ⟨#[]⟩, .string ⟨#[]⟩, .string ⟨#[]⟩], .int .i64 x])) w := by
  unfold BothPost
  rw [h, if_neg hx, if_neg hx]
  exact ⟨rfl, hb⟩
theorem BothPost.good {w0 w : World} {kind : Int} {p q : Parts} (h : kindB kind = true) (hb : Below w0.heap.size w0 w) : BothPost w0 kind (some p) (some q) (.returned (.tuple #[evrV (some p), evrV (some q), .int .i64 0])) w := by
  unfold BothPost bothErr
  rw [if_pos h]
  exact ⟨rfl, hb⟩
theorem evr_agg (o : Option Parts) : ∃ e v r : ByteArray, evrV o = .agg #[.string e, .string v, .string r] := by
  cases o with
  | none => exact ⟨_, _, _, rfl⟩
  | some p => exact ⟨_, _, _, rfl⟩

set_option maxHeartbeats 4000000 in
set_option maxRecDepth 100000 in
theorem both_any (kind : Int) (a b : ByteArray) (w0 : World) : Calls Tryd.prog 24 #[.int .i64 kind, .string a, .string b] w0 (BothPost w0 kind (parse a.data.toList) (parse b.data.toList)) := by
  have CK := Lib.hid (fun w => isKind_any kind w)
  have CA := Lib.hid (fun w => split_any a w)
  have CB := Lib.hid (fun w => split_any b w)
  unfold SplitPost at CA CB
  generalize parse a.data.toList = A at *
  generalize parse b.data.toList = B at *
  cases hk : kindB kind with
  | false =>
    have HE := Lib.hid (show bothErr kind A B = 1 by unfold bothErr; rw [hk]; rfl)
    rw [hk] at CK
    clear hk CA CB
    go_enter Tryd.func24, Tryd.ntmps24
    go_wp2_with fail
    refine (CK.out _).mono ?_
    rintro e' w1 ⟨rfl, rfl⟩
    go_wp2_with fail
    refine bodyPost_ret (v := .tuple #[.agg #[.string ⟨#[]⟩, .string ⟨#[]⟩, .string ⟨#[]⟩], .agg #[.string ⟨#[]⟩, .string ⟨#[]⟩, .string ⟨#[]⟩], .int .i64 1]) (by simp [results, Tryd.results24, go_sem]) rfl (BothPost.bad HE.out (by decide) ?_)
    exact ((Below.refl _ _).alloc (Nat.le_refl _) _).alloc (by simp) _
  | true =>
    rw [hk] at CK
    have HK := Lib.hid hk
    clear hk
    obtain ⟨ea, va, ra, hA⟩ := evr_agg A
    obtain ⟨eb, vb, rb, hB⟩ := evr_agg B
    rw [hA] at CA
    rw [hB] at CB
    have HA := Lib.hid hA
    have HB := Lib.hid hB
    obtain ⟨sa, hsa⟩ : ∃ sa, sa = A.isSome := ⟨_, rfl⟩
    obtain ⟨sb, hsb⟩ : ∃ sb, sb = B.isSome := ⟨_, rfl⟩
    have HSA := Lib.hid hsa
    have HSB := Lib.hid hsb
    rw [← hsa] at CA
    rw [← hsb] at CB
    clear hA hB hsa hsb
    cases sa <;> cases sb
    all_goals
      go_enter Tryd.func24, Tryd.ntmps24
      go_wp2_with fail
      refine (CK.out _).mono ?_
      rintro e' w1 ⟨rfl, rfl⟩
      go_wp2_with fail
      refine (CA.out _).mono ?_
      rintro e' w2 ⟨rfl, hb2⟩
      have hz2 := hb2.size
      simp only [World.size_alloc] at hz2
      have K1 := Lib.hid (((Blk.new w0 24 #[Value.string ⟨#[]⟩, .string ⟨#[]⟩, .string ⟨#[]⟩]).alloc (.cells #[Value.string ⟨#[]⟩, .string ⟨#[]⟩, .string ⟨#[]⟩] 24)).below hb2 (by simp; omega))
      have K2 := Lib.hid ((Blk.new' (w := w0.alloc (.cells #[Value.string ⟨#[]⟩, .string ⟨#[]⟩, .string ⟨#[]⟩] 24)) (g := w0.heap.size + 1) (t := 24) (cs := #[Value.string ⟨#[]⟩, .string ⟨#[]⟩, .string ⟨#[]⟩]) (by simp)).below hb2 (by simp))
      have HB2 : Hid (Below w0.heap.size w0 w2) := (((Below.refl _ _).alloc (Nat.le_refl _) _).alloc (by simp) _).trans (hb2.mono (by simp; omega))
      clear hb2
      go_wp2_with fail
      refine (CB.out _).mono ?_
      rintro e' w3 ⟨rfl, hb3⟩
      have hz3 := hb3.size
      simp only [World.size_alloc] at hz3
      have K1 := Lib.hid ((K1.out.alloc (.cells #[Value.string ea, .string va, .string ra] 24)).below hb3 (by simp; omega))
      have K2 := Lib.hid ((K2.out.alloc (.cells #[Value.string ea, .string va, .string ra] 24)).below hb3 (by simp; omega))
      have K3 := Lib.hid ((Blk.new w2 24 #[Value.string ea, .string va, .string ra]).below hb3 (by simp))
      have HB3 : Hid (Below w0.heap.size w0 w3) := (HB2.out.alloc (by omega) _).trans (hb3.mono (by simp; omega))
      clear hb3 CA CB
      have c10 := K1.out.cell 0
      have c11 := K1.out.cell 1
      have c12 := K1.out.cell 2
      have c20 := K2.out.cell 0
      have c21 := K2.out.cell 1
      have c22 := K2.out.cell 2
      have c30 := K3.out.cell 0
      have c31 := K3.out.cell 1
      have c32 := K3.out.cell 2
      have f10 := K1.out.free 0
      have f11 := K1.out.free 1
      have f12 := K1.out.free 2
      have f20 := K2.out.free 0
      have f21 := K2.out.free 1
      have f22 := K2.out.free 2
      have n1 : w0.heap.size < w3.heap.size := by omega
      have n2 : w0.heap.size + 1 < w3.heap.size := by omega
      have n3 : w2.heap.size < w3.heap.size := by omega
      have n4 : w0.heap.size ≠ w2.heap.size := by omega
      have n5 : w0.heap.size + 1 ≠ w2.heap.size := by omega
      have n6 : w0.heap.size ≠ w3.heap.size := by omega
      have n7 : w0.heap.size + 1 ≠ w3.heap.size := by omega
      go_wp2_with fail
    · have HE := Lib.hid (show bothErr kind A B = 30 by unfold bothErr; rw [HK.out, ← HSA.out, ← HSB.out]; rfl)
      refine bodyPost_ret (v := .tuple #[.agg #[.string ⟨#[]⟩, .string ⟨#[]⟩, .string ⟨#[]⟩], .agg #[.string ⟨#[]⟩, .string ⟨#[]⟩, .string ⟨#[]⟩], .int .i64 30]) (by simp [results, Tryd.results24, go_sem, *]) rfl (BothPost.bad HE.out (by decide) ?_)
      repeat (first | with_reducible exact HB3.out | with_reducible refine Below.setCell ?_ (by simp) _ | with_reducible refine Below.alloc ?_ (by simp; omega) _ | with_reducible refine Below.drew ?_)
    · have HE := Lib.hid (show bothErr kind A B = 30 by unfold bothErr; rw [HK.out, ← HSA.out, ← HSB.out]; rfl)
      refine bodyPost_ret (v := .tuple #[.agg #[.string ⟨#[]⟩, .string ⟨#[]⟩, .string ⟨#[]⟩], .agg #[.string ⟨#[]⟩, .string ⟨#[]⟩, .string ⟨#[]⟩], .int .i64 30]) (by simp [results, Tryd.results24, go_sem, *]) rfl (BothPost.bad HE.out (by decide) ?_)
      repeat (first | with_reducible exact HB3.out | with_reducible refine Below.setCell ?_ (by simp) _ | with_reducible refine Below.alloc ?_ (by simp; omega) _ | with_reducible refine Below.drew ?_)
    · have HE := Lib.hid (show bothErr kind A B = 30 by unfold bothErr; rw [HK.out, ← HSA.out, ← HSB.out]; rfl)
      refine bodyPost_ret (v := .tuple #[.agg #[.string ⟨#[]⟩, .string ⟨#[]⟩, .string ⟨#[]⟩], .agg #[.string ⟨#[]⟩, .string ⟨#[]⟩, .string ⟨#[]⟩], .int .i64 30]) (by simp [results, Tryd.results24, go_sem, *]) rfl (BothPost.bad HE.out (by decide) ?_)
      repeat (first | with_reducible exact HB3.out | with_reducible refine Below.setCell ?_ (by simp) _ | with_reducible refine Below.alloc ?_ (by simp; omega) _ | with_reducible refine Below.drew ?_)
    · go_region
      go_wp2_with fail
      refine bodyPost_ret (v := .tuple #[.agg #[.string ea, .string va, .string ra], .agg #[.string eb, .string vb, .string rb], .int .i64 0]) (by simp [results, Tryd.results24, go_sem, *]) rfl ?_
      rw [← HA.out, ← HB.out]
      cases A with
      | none => exact absurd HSA.out (by simp)
      | some p => cases B with
        | none => exact absurd HSB.out (by simp)
        | some q =>
          refine BothPost.good HK.out ?_
          repeat (first | with_reducible exact HB3.out | with_reducible refine Below.setCell ?_ (by simp) _ | with_reducible refine Below.alloc ?_ (by simp; omega) _ | with_reducible refine Below.drew ?_)
end Go.Proofs.YtbfpljlgjpmmmaaDoor
