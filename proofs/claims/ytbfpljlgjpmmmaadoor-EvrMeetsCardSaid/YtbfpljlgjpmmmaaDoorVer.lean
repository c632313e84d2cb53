/- Two versions but for their releases: compareVersions. -/
import Derived.Test.YtbfpljlgjpmmmaaDoorMay
namespace Go.Proofs.YtbfpljlgjpmmmaaDoor
set_option linter.unusedSimpArgs false
set_option linter.unusedVariables false
open Go.RowKit

/-- Two blocks stay, and all that was there before. -/
def KeepV (w0 : World) (c1 c2 : Array Value) (w : World) : Prop := Blk w w0.heap.size 24 c1 ∧ Blk w (w0.heap.size + 1) 24 c2 ∧ Below w0.heap.size w0 w
theorem KeepV.below {w0 w w' : World} {c1 c2 : Array Value} (h : KeepV w0 c1 c2 w) (hb : Below w.heap.size w w') : KeepV w0 c1 c2 w' :=
  ⟨h.1.below hb h.1.lt, h.2.1.below hb h.2.1.lt, h.2.2.trans (hb.mono h.2.2.size)⟩

set_option maxHeartbeats 1000000 in
set_option maxRecDepth 100000 in
theorem versions_any (kind : Int) (e1 v1 r1 e2 v2 r2 : ByteArray) (s1 : e1.size ≤ maxLen) (s2 : e2.size ≤ maxLen) (s3 : v1.size ≤ maxLen) (s4 : v2.size ≤ maxLen) (w0 : World) :
    Calls Tryd.prog 26 #[.int .i64 kind, .agg #[.string e1, .string v1, .string r1], .agg #[.string e2, .string v2, .string r2]] w0 fun e w' => e = .returned (.int .i64 (thenC (cmpNum e1.data.toList e2.data.toList) (cmpTxt kind v1.data.toList v2.data.toList))) ∧ Below w0.heap.size w0 w' := by
  have CN := Lib.hid (fun w => num_any e1 e2 s1 s2 w)
  have CT := Lib.hid (fun w => texts_any kind v1 v2 s3 s4 w)
  clear s1 s2 s3 s4
  go_enter Tryd.func26, Tryd.ntmps26
  go_wp2_with fail
  have hS0 : KeepV w0 #[Value.string e1, .string v1, .string r1] #[Value.string e2, .string v2, .string r2] ((w0.alloc (.cells #[.string e1, .string v1, .string r1] 24)).alloc (.cells #[.string e2, .string v2, .string r2] 24)) :=
    ⟨(Blk.new w0 _ _).alloc _, Blk.new' (by simp), ((Below.refl _ _).alloc (Nat.le_refl _) _).alloc (by simp) _⟩
  refine wp_region_S (fun _ w => KeepV w0 #[Value.string e1, .string v1, .string r1] #[Value.string e2, .string v2, .string r2] w) (by kernel_rfl) ⟨hS0.1, hS0.2.1, hS0.2.2.drew⟩ (fun hS => ?_)
  clear hS0
  refine wpAnyS_take (i := 0) (KeepV w0 #[Value.string e1, .string v1, .string r1] #[Value.string e2, .string v2, .string r2]) (v := .pointer (some ⟨w0.heap.size, 0, none⟩)) rfl (by kernel_rfl) (by kernel_rfl) (by kernel_rfl) (fun _ _ _ h => h) (fun _ _ _ h => h) (fun _ _ => Iff.rfl) (by kernel_rfl) hS (fun w' hSw => ?_) (by rfl) (fun hS => ?_)
  · go_simp
  try simp only [Act.put, List.setIfInBounds_toArray, List.set_cons_zero, List.set_cons_succ]
  refine wpAnyS_take (i := 1) (KeepV w0 #[Value.string e1, .string v1, .string r1] #[Value.string e2, .string v2, .string r2]) (v := .string e1) rfl (by kernel_rfl) (by kernel_rfl) (by kernel_rfl) (fun _ _ _ h => h) (fun _ _ _ h => h) (fun _ _ => Iff.rfl) (by kernel_rfl) hS (fun w' hSw => ?_) (by rfl) (fun hS => ?_)
  · have c : w'.cell? ⟨w0.heap.size, 0, none⟩ = some (.string e1) := hSw.1.cell 0
    go_simp
  try simp only [Act.put, List.setIfInBounds_toArray, List.set_cons_zero, List.set_cons_succ]
  refine wpAnyS_take (i := 2) (KeepV w0 #[Value.string e1, .string v1, .string r1] #[Value.string e2, .string v2, .string r2]) (v := .pointer (some ⟨w0.heap.size + 1, 0, none⟩)) rfl (by kernel_rfl) (by kernel_rfl) (by kernel_rfl) (fun _ _ _ h => h) (fun _ _ _ h => h) (fun _ _ => Iff.rfl) (by kernel_rfl) hS (fun w' hSw => ?_) (by rfl) (fun hS => ?_)
  · go_simp
  try simp only [Act.put, List.setIfInBounds_toArray, List.set_cons_zero, List.set_cons_succ]
  refine wpAnyS_take (i := 3) (KeepV w0 #[Value.string e1, .string v1, .string r1] #[Value.string e2, .string v2, .string r2]) (v := .string e2) rfl (by kernel_rfl) (by kernel_rfl) (by kernel_rfl) (fun _ _ _ h => h) (fun _ _ _ h => h) (fun _ _ => Iff.rfl) (by kernel_rfl) hS (fun w' hSw => ?_) (by rfl) (fun hS => ?_)
  · have c : w'.cell? ⟨w0.heap.size + 1, 0, none⟩ = some (.string e2) := hSw.2.1.cell 0
    go_simp
  try simp only [Act.put, List.setIfInBounds_toArray, List.set_cons_zero, List.set_cons_succ]
  refine wpAnyS_take (i := 5) (KeepV w0 #[Value.string e1, .string v1, .string r1] #[Value.string e2, .string v2, .string r2]) (v := .int .i64 kind) rfl (by kernel_rfl) (by kernel_rfl) (by kernel_rfl) (fun _ _ _ h => h) (fun _ _ _ h => h) (fun _ _ => Iff.rfl) (by kernel_rfl) hS (fun w' hSw => ?_) (by rfl) (fun hS => ?_)
  · go_simp
  try simp only [Act.put, List.setIfInBounds_toArray, List.set_cons_zero, List.set_cons_succ]
  refine wpAnyS_take (i := 6) (KeepV w0 #[Value.string e1, .string v1, .string r1] #[Value.string e2, .string v2, .string r2]) (v := .pointer (some ⟨w0.heap.size, 1, none⟩)) rfl (by kernel_rfl) (by kernel_rfl) (by kernel_rfl) (fun _ _ _ h => h) (fun _ _ _ h => h) (fun _ _ => Iff.rfl) (by kernel_rfl) hS (fun w' hSw => ?_) (by rfl) (fun hS => ?_)
  · go_simp
  try simp only [Act.put, List.setIfInBounds_toArray, List.set_cons_zero, List.set_cons_succ]
  refine wpAnyS_take (i := 7) (KeepV w0 #[Value.string e1, .string v1, .string r1] #[Value.string e2, .string v2, .string r2]) (v := .string v1) rfl (by kernel_rfl) (by kernel_rfl) (by kernel_rfl) (fun _ _ _ h => h) (fun _ _ _ h => h) (fun _ _ => Iff.rfl) (by kernel_rfl) hS (fun w' hSw => ?_) (by rfl) (fun hS => ?_)
  · have c : w'.cell? ⟨w0.heap.size, 1, none⟩ = some (.string v1) := hSw.1.cell 1
    go_simp
  try simp only [Act.put, List.setIfInBounds_toArray, List.set_cons_zero, List.set_cons_succ]
  refine wpAnyS_take (i := 8) (KeepV w0 #[Value.string e1, .string v1, .string r1] #[Value.string e2, .string v2, .string r2]) (v := .pointer (some ⟨w0.heap.size + 1, 1, none⟩)) rfl (by kernel_rfl) (by kernel_rfl) (by kernel_rfl) (fun _ _ _ h => h) (fun _ _ _ h => h) (fun _ _ => Iff.rfl) (by kernel_rfl) hS (fun w' hSw => ?_) (by rfl) (fun hS => ?_)
  · go_simp
  try simp only [Act.put, List.setIfInBounds_toArray, List.set_cons_zero, List.set_cons_succ]
  refine wpAnyS_take (i := 9) (KeepV w0 #[Value.string e1, .string v1, .string r1] #[Value.string e2, .string v2, .string r2]) (v := .string v2) rfl (by kernel_rfl) (by kernel_rfl) (by kernel_rfl) (fun _ _ _ h => h) (fun _ _ _ h => h) (fun _ _ => Iff.rfl) (by kernel_rfl) hS (fun w' hSw => ?_) (by rfl) (fun hS => ?_)
  · have c : w'.cell? ⟨w0.heap.size + 1, 1, none⟩ = some (.string v2) := hSw.2.1.cell 1
    go_simp
  try simp only [Act.put, List.setIfInBounds_toArray, List.set_cons_zero, List.set_cons_succ]
  refine wpAnyS_one (i := 4) (by kernel_rfl) rfl (fun K hK => ?_)
  go_simp
  refine (CN.out _).mono ?_
  rintro e w3 ⟨rfl, hb3⟩
  refine hK.out _ _ (hS.below hb3) (fun hS => ?_)
  clear hK K
  try simp only [Act.put, List.setIfInBounds_toArray, List.set_cons_zero, List.set_cons_succ]
  refine wpAnyS_one (i := 10) (by kernel_rfl) rfl (fun K hK => ?_)
  go_simp
  refine (CT.out _).mono ?_
  rintro e w4 ⟨rfl, hb4⟩
  refine hK.out _ _ (hS.below hb4) (fun hS => ?_)
  clear hK K
  try simp only [Act.put, List.setIfInBounds_toArray, List.set_cons_zero, List.set_cons_succ]
  refine wpAnyS_one (i := 11) (by kernel_rfl) rfl (fun K hK => ?_)
  go_simp
  refine hK.out _ _ (hS.below ((Below.refl _ _).alloc (Nat.le_refl _) _)) (fun hS => ?_)
  clear hK K
  try simp only [Act.put, List.setIfInBounds_toArray, List.set_cons_zero, List.set_cons_succ]
  have B5 := Blk.new w4 3 #[.int .i64 (cmpNum e1.data.toList e2.data.toList), .int .i64 (cmpTxt kind v1.data.toList v2.data.toList)]
  refine wpAnyS_one (i := 12) (by kernel_rfl) rfl (fun K hK => ?_)
  go_simp
  refine (or_any _ (cmpNum e1.data.toList e2.data.toList) (cmpTxt kind v1.data.toList v2.data.toList) _ (B5.cell 0) (B5.cell 1)).mono ?_
  rintro e w5 ⟨rfl, rfl⟩
  refine hK.out _ _ hS (fun hS => ?_)
  clear hK K
  try simp only [Act.put, List.setIfInBounds_toArray, List.set_cons_zero, List.set_cons_succ]
  refine wpAnyS_one (i := 13) (by kernel_rfl) rfl (fun K hK => ?_)
  go_simp
  refine hK.out _ _ hS (fun hS => ?_)
  clear hK K
  try simp only [Act.put, List.setIfInBounds_toArray, List.set_cons_zero, List.set_cons_succ]
  refine wpAnyS_done (by kernel_rfl) ?_ _
  go_wp2_with fail
  go_ret
  exact ⟨rfl, hS.2.2⟩
end Go.Proofs.YtbfpljlgjpmmmaaDoor
