/- The document's answer: two versions' parts, and how they compare. -/
import Derived.Test.YtbfpljlgjpmmmaaDoorRefE
import Derived.Test.YtbfpljlgjpmmmaaDoorCmp
namespace Go.Proofs.YtbfpljlgjpmmmaaDoor
set_option linter.unusedSimpArgs false
set_option linter.unusedVariables false
open Go.RowKit

/-- An error: its code, whatever stands beside it. -/
def RBad (w0 : World) (x : Int) (e : Ending) (w : World) : Prop :=
  (∃ e1 v1 r1 e2 v2 r2 : ByteArray, e = .returned (.tuple #[.agg #[.string e1, .string v1, .string r1], .agg #[.string e2, .string v2, .string r2], .int .i64 x])) ∧ Below w0.heap.size w0 w

set_option maxHeartbeats 4000000 in
set_option maxRecDepth 1000000 in
theorem refBoth_kind (kind : Int) (a b : ByteArray) (hk : kindB kind = false) (w0 : World) : Calls Tryd.prog 28 #[.int .i64 kind, .string a, .string b] w0 (RBad w0 1) := by
  have hk' : ¬ (kind = 1 ∨ kind = 2) := of_decide_eq_false hk
  have k1 : (kind != 1) = true := by simp; omega
  have k2 : (kind != 2) = true := by simp; omega
  clear hk hk'
  go_enter Tryd.func28, Tryd.ntmps28
  go_wp2_with fail
  refine bodyPost_ret (v := .tuple #[.agg #[.string ⟨#[]⟩, .string ⟨#[]⟩, .string ⟨#[]⟩], .agg #[.string ⟨#[]⟩, .string ⟨#[]⟩, .string ⟨#[]⟩], .int .i64 1]) (by simp [results, Tryd.results28, go_sem]) rfl ⟨⟨_, _, _, _, _, _, rfl⟩, ?_⟩
  repeat (first | with_reducible exact Below.refl _ _ | with_reducible refine Below.setCell ?_ (by simp) _ | with_reducible refine Below.alloc ?_ (by simp) _ | with_reducible refine Below.drew ?_)

set_option maxHeartbeats 4000000 in
set_option maxRecDepth 1000000 in
theorem refBoth_none (kind : Int) (a b : ByteArray) (ha : a.size ≤ maxLen) (hk : kindB kind = true) (hp : parse a.data.toList = none) (w0 : World) : Calls Tryd.prog 28 #[.int .i64 kind, .string a, .string b] w0 (RBad w0 30) := by
  have CA := Lib.hid (fun w => refParse_any a ha w)
  unfold PPost at CA
  rw [hp] at CA
  change Hid (∀ w : World, Calls Tryd.prog 13 #[.string a] w fun e w' => e = .returned (.tuple #[.agg #[.string ⟨#[]⟩, .string ⟨#[]⟩, .string ⟨#[]⟩], .int .i64 30]) ∧ Below w.heap.size w w') at CA
  have hk' : kind = 1 ∨ kind = 2 := of_decide_eq_true hk
  clear ha hp hk
  rcases hk' with rfl | rfl
  all_goals
    go_enter Tryd.func28, Tryd.ntmps28
    go_wp2_with fail
    refine (CA.out _).mono ?_
    rintro e' w2 ⟨rfl, hb2⟩
    have hz2 := hb2.size
    simp only [World.size_alloc] at hz2
    have K1 := Lib.hid (((Blk.new w0 24 #[Value.string ⟨#[]⟩, .string ⟨#[]⟩, .string ⟨#[]⟩]).alloc (.cells #[Value.string ⟨#[]⟩, .string ⟨#[]⟩, .string ⟨#[]⟩] 24)).below hb2 (by simp; omega))
    have K2 := Lib.hid ((Blk.new' (w := w0.alloc (.cells #[Value.string ⟨#[]⟩, .string ⟨#[]⟩, .string ⟨#[]⟩] 24)) (g := w0.heap.size + 1) (t := 24) (cs := #[Value.string ⟨#[]⟩, .string ⟨#[]⟩, .string ⟨#[]⟩]) (by simp)).below hb2 (by simp))
    have HB2 : Hid (Below w0.heap.size w0 w2) := (((Below.refl _ _).alloc (Nat.le_refl _) _).alloc (by simp) _).trans (hb2.mono (by simp; omega))
    clear hb2 CA
    have c10 := K1.out.cell 0
    have c11 := K1.out.cell 1
    have c12 := K1.out.cell 2
    have c20 := K2.out.cell 0
    have c21 := K2.out.cell 1
    have c22 := K2.out.cell 2
    have f10 := K1.out.free 0
    have f11 := K1.out.free 1
    have f12 := K1.out.free 2
    have f20 := K2.out.free 0
    have f21 := K2.out.free 1
    have f22 := K2.out.free 2
    have n1 : w0.heap.size < w2.heap.size := by omega
    have n2 : w0.heap.size + 1 < w2.heap.size := by omega
    have n4 : w0.heap.size ≠ w2.heap.size := by omega
    have n5 : w0.heap.size + 1 ≠ w2.heap.size := by omega
    go_wp2_with fail
    refine bodyPost_ret (v := .tuple #[.agg #[.string ⟨#[]⟩, .string ⟨#[]⟩, .string ⟨#[]⟩], .agg #[.string ⟨#[]⟩, .string ⟨#[]⟩, .string ⟨#[]⟩], .int .i64 30]) (by simp [results, Tryd.results28, go_sem, *]) rfl ⟨⟨_, _, _, _, _, _, rfl⟩, ?_⟩
    repeat (first | with_reducible exact HB2.out | with_reducible refine Below.setCell ?_ (by simp) _ | with_reducible refine Below.alloc ?_ (by simp; omega) _ | with_reducible refine Below.drew ?_)

set_option maxHeartbeats 4000000 in
set_option maxRecDepth 1000000 in
theorem refBoth_some (kind : Int) (a b : ByteArray) (ha : a.size ≤ maxLen) (hb : b.size ≤ maxLen) (hk : kindB kind = true) {e1 v1 r1 e2 v2 r2 : ByteArray} {B : Option Parts}
    (hp : evrV (parse a.data.toList) = .agg #[.string e1, .string v1, .string r1]) (hq : (parse a.data.toList).isSome = true) (hB : parse b.data.toList = B) (he : evrV B = .agg #[.string e2, .string v2, .string r2]) (w0 : World) :
    Calls Tryd.prog 28 #[.int .i64 kind, .string a, .string b] w0 fun e w => e = .returned (.tuple #[.agg #[.string e1, .string v1, .string r1], .agg #[.string e2, .string v2, .string r2], .int .i64 (errV B)]) ∧ Below w0.heap.size w0 w := by
  have CA := Lib.hid (fun w => refParse_any a ha w)
  have CB := Lib.hid (fun w => refParse_any b hb w)
  unfold PPost at CA CB
  obtain ⟨p, hp'⟩ := Option.isSome_iff_exists.1 hq
  rw [hB, he] at CB
  rw [hp, hp'] at CA
  generalize errV B = x at *
  change Hid (∀ w : World, Calls Tryd.prog 13 #[.string a] w fun e w' => e = .returned (.tuple #[.agg #[.string e1, .string v1, .string r1], .int .i64 0]) ∧ Below w.heap.size w w') at CA
  have hk' : kind = 1 ∨ kind = 2 := of_decide_eq_true hk
  clear ha hb hp hq hp' hB he hk
  rcases hk' with rfl | rfl
  all_goals
    go_enter Tryd.func28, Tryd.ntmps28
    go_wp2_with fail
    refine (CA.out _).mono ?_
    rintro e' w2 ⟨rfl, hb2⟩
    have hz2 := hb2.size
    simp only [World.size_alloc] at hz2
    have K1 := Lib.hid (((Blk.new w0 24 #[Value.string ⟨#[]⟩, .string ⟨#[]⟩, .string ⟨#[]⟩]).alloc (.cells #[Value.string ⟨#[]⟩, .string ⟨#[]⟩, .string ⟨#[]⟩] 24)).below hb2 (by simp; omega))
    have K2 := Lib.hid ((Blk.new' (w := w0.alloc (.cells #[Value.string ⟨#[]⟩, .string ⟨#[]⟩, .string ⟨#[]⟩] 24)) (g := w0.heap.size + 1) (t := 24) (cs := #[Value.string ⟨#[]⟩, .string ⟨#[]⟩, .string ⟨#[]⟩]) (by simp)).below hb2 (by simp))
    have HB2 : Hid (Below w0.heap.size w0 w2) := (((Below.refl _ _).alloc (Nat.le_refl _) _).alloc (by simp) _).trans (hb2.mono (by simp; omega))
    clear hb2 CA
    go_wp2_with fail
    refine (CB.out _).mono ?_
    rintro e' w3 ⟨rfl, hb3⟩
    have hz3 := hb3.size
    simp only [World.size_alloc] at hz3
    have K1 := Lib.hid ((K1.out.alloc (.cells #[Value.string e1, .string v1, .string r1] 24)).below hb3 (by simp; omega))
    have K2 := Lib.hid ((K2.out.alloc (.cells #[Value.string e1, .string v1, .string r1] 24)).below hb3 (by simp; omega))
    have K3 := Lib.hid ((Blk.new w2 24 #[Value.string e1, .string v1, .string r1]).below hb3 (by simp))
    have HB3 : Hid (Below w0.heap.size w0 w3) := (HB2.out.alloc (by omega) _).trans (hb3.mono (by simp; omega))
    clear hb3 CB
    have c10 := K1.out.cell 0
    have c11 := K1.out.cell 1
    have c12 := K1.out.cell 2
    have c20 := K2.out.cell 0
    have c21 := K2.out.cell 1
    have c22 := K2.out.cell 2
    have f10 := K1.out.free 0
    have f11 := K1.out.free 1
    have f12 := K1.out.free 2
    have f20 := K2.out.free 0
    have f21 := K2.out.free 1
    have f22 := K2.out.free 2
    have c30 := K3.out.cell 0
    have c31 := K3.out.cell 1
    have c32 := K3.out.cell 2
    have n1 : w0.heap.size < w3.heap.size := by omega
    have n2 : w0.heap.size + 1 < w3.heap.size := by omega
    have n3 : w2.heap.size < w3.heap.size := by omega
    have n4 : w0.heap.size ≠ w2.heap.size := by omega
    have n5 : w0.heap.size + 1 ≠ w2.heap.size := by omega
    have n6 : w0.heap.size ≠ w3.heap.size := by omega
    have n7 : w0.heap.size + 1 ≠ w3.heap.size := by omega
    go_wp2_with fail
    go_region
    go_wp2_with fail
    refine bodyPost_ret (v := .tuple #[.agg #[.string e1, .string v1, .string r1], .agg #[.string e2, .string v2, .string r2], .int .i64 x]) (by simp [results, Tryd.results28, go_sem, *]) rfl ⟨rfl, ?_⟩
    repeat (first | with_reducible exact HB3.out | with_reducible refine Below.setCell ?_ (by simp) _ | with_reducible refine Below.alloc ?_ (by simp; omega) _ | with_reducible refine Below.drew ?_)

theorem refBoth_bad (kind : Int) (a b : ByteArray) (ha : a.size ≤ maxLen) (hb : b.size ≤ maxLen) (hz : bothErr kind (parse a.data.toList) (parse b.data.toList) ≠ 0) (w0 : World) :
    Calls Tryd.prog 28 #[.int .i64 kind, .string a, .string b] w0 (RBad w0 (bothErr kind (parse a.data.toList) (parse b.data.toList))) := by
  cases hk : kindB kind with
  | false => rw [show bothErr kind (parse a.data.toList) (parse b.data.toList) = 1 by unfold bothErr; rw [hk]; rfl]; exact refBoth_kind kind a b hk w0
  | true =>
    cases hp : parse a.data.toList with
    | none =>
      rw [show bothErr kind none (parse b.data.toList) = 30 by unfold bothErr; rw [hk]; rfl]
      exact refBoth_none kind a b ha hk hp w0
    | some p =>
      cases hq : parse b.data.toList with
      | none =>
        rw [show bothErr kind (some p) none = 30 by unfold bothErr; rw [hk]; rfl]
        exact (refBoth_some kind a b ha hb hk (e1 := mkS p.e) (v1 := mkS p.v) (r1 := mkS p.r) (by rw [hp]; rfl) (by rw [hp]; rfl) hq rfl w0).mono fun e w h => ⟨⟨_, _, _, _, _, _, h.1⟩, h.2⟩
      | some q => exact absurd (by rw [hp, hq]; unfold bothErr; rw [hk]; rfl) hz
theorem refBoth_good (kind : Int) (a b : ByteArray) (ha : a.size ≤ maxLen) (hb : b.size ≤ maxLen) (hk : kindB kind = true) {p q : Parts} (hp : parse a.data.toList = some p) (hq : parse b.data.toList = some q) (w0 : World) :
    Calls Tryd.prog 28 #[.int .i64 kind, .string a, .string b] w0 fun e w => e = .returned (.tuple #[.agg #[.string (mkS p.e), .string (mkS p.v), .string (mkS p.r)], .agg #[.string (mkS q.e), .string (mkS q.v), .string (mkS q.r)], .int .i64 0]) ∧ Below w0.heap.size w0 w :=
  refBoth_some kind a b ha hb hk (e1 := mkS p.e) (v1 := mkS p.v) (r1 := mkS p.r) (by rw [hp]; rfl) (by rw [hp]; rfl) hq rfl w0
end Go.Proofs.YtbfpljlgjpmmmaaDoor
