/- Copies in memory of their own: depApart, listApart. -/
import Derived.Test.YtinldjjbfhpnkaaDoorPApart
import Derived.Test.YtinldjjbfhpnkaaDoorPhase
namespace Go.Proofs.YtinldjjbfhpnkaaDoor
set_option linter.unusedSimpArgs false
set_option linter.unusedVariables false
open Go.RowKit

def zr5 : Array Value := #[.int .i64 0, .string ⟨#[]⟩, .int .i64 0, .string ⟨#[]⟩, .slice none 0 0]
/-- While a dependency's texts are copied: its box, the room for the copy; what stood ahead. -/
structure ASt (w0 : World) (d : Dep) (s : Value) (wx : World) : Prop where
  below : Below w0.heap.size w0 wx
  box : Blk wx w0.heap.size 80 (rowD d s)
  room : Blk wx (w0.heap.size + 1) 80 zr5
theorem ASt.below_ {w0 wx w' : World} {d : Dep} {s : Value} (h : ASt w0 d s wx) (hb : Below wx.heap.size wx w') : ASt w0 d s w' := ⟨h.below.trans (hb.mono h.below.size), h.box.below hb h.box.lt, h.room.below hb h.room.lt⟩
theorem ASt.set_ {w0 wx : World} {d : Dep} {s : Value} (h : ASt w0 d s wx) {i : Nat} {u : Value} (hu : (rowD d s).setIfInBounds i u = rowD d s) : ASt w0 d s (wx.setCell ⟨w0.heap.size, i, none⟩ u) :=
  ⟨h.below.setCell (Nat.le_refl _) _, by have := h.box.set_ i u; rwa [hu] at this, h.room.far (by simp) _⟩
theorem load5d {w : World} {g : Nat} {x0 x1 x2 x3 x4 : Value} (h : Blk w g 80 #[x0, x1, x2, x3, x4]) : (loadVar 80 ⟨g, 0, none⟩).run Tryd.prog w = .ok (.agg #[x0, x1, x2, x3, x4]) w := by
  have b0 := h.cell 0
  have b1 := h.cell 1
  have b2 := h.cell 2
  have b3 := h.cell 3
  have b4 := h.cell 4
  simp at b0 b1 b2 b3 b4
  clear h
  go_simp
theorem five_blk' {w : World} {g : Nat} {x0 x1 x2 x3 x4 : Value} (h : Blk w g 80 #[x0, x1, x2, x3, x4]) (d : Dep) (s : Value) : Blk (((((w.setCell ⟨g, 0, none⟩ (.int .i64 d.kind)).setCell ⟨g, 1, none⟩ (.string d.name)).setCell ⟨g, 2, none⟩ (.int .i64 d.op)).setCell ⟨g, 3, none⟩ (.string d.evr)).setCell ⟨g, 4, none⟩ s) g 80 (rowD d s) := ((((h.set_ 0 (.int .i64 d.kind)).set_ 1 (.string d.name)).set_ 2 (.int .i64 d.op)).set_ 3 (.string d.evr)).set_ 4 s
set_option maxHeartbeats 4000000 in
set_option maxRecDepth 100000 in
theorem apart_node (d : Dep) (ih : ∀ a ∈ d.args, ApartOk a) : ApartOk d := by
  intro s S w hL hsm hN
  obtain ⟨A, c, rfl, hc1, hc2, hA⟩ := hL.args_
  obtain ⟨hs1, hs2, hsa⟩ := small_parts hsm
  have hnd := nodes_parts d
  have hge := nodesA_ge d.args
  have CN := Lib.hid (cloneL_any d.name (by omega))
  have CV := Lib.hid (cloneL_any d.evr (by omega))
  have HLA : Hid (∀ wx, Below w.heap.size w wx → Calls Tryd.prog 62 #[.slice A d.args.length c, .func (.func 63) #[] #[]] wx (ListNew wx d.args)) := fun wx hb =>
    listApart_of d.args ih _ S wx ⟨A, c, rfl, hc1, hc2, (fun h => by subst h; exact hL.nil_.1), hA.stay (fun _ h => h) (StayS.below' hb)⟩ (fun a ha => ⟨hsa a ha, by have := nodesA_mem ha; omega⟩) (by omega)
  have H0 : Hid (ASt w d (.slice A d.args.length c) (((w.alloc (.cells (rowD d (.slice A d.args.length c)) 80)).alloc (.cells zr5 80)).drew)) :=
    ⟨(((Below.refl _ _).alloc (Nat.le_refl _) _).alloc (by simp) _).drew, Blk.drew ((Blk.new _ _ _).alloc _), Blk.drew (Blk.new' (by simp))⟩
  have HLn := Lib.hid (And.intro hc1 hc2)
  clear hL hc1 hc2 hA hs1 hs2 hsa hnd hge hsm hN ih
  unfold rowD zr5 at H0
  unfold rowD
  go_enter Tryd.func63, Tryd.ntmps63
  go_upto_region 1 with fail
  rename_i K hK
  refine wp_region_S (fun _ wx => ASt w d (.slice A d.args.length c) wx) (by kernel_rfl) H0.out (fun hS => ?_)
  clear H0
  refine wpAnyS_take (i := 0) (fun _ => True) (v := .pointer (some ⟨w.heap.size, 1, none⟩)) rfl (by kernel_rfl) (by kernel_rfl) (by kernel_rfl) (fun _ _ _ h => h) (fun _ _ _ _ => trivial) (fun _ _ => Iff.rfl) (by kernel_rfl) hS (fun w' hSw => ?_) (by rfl) (fun hS => ?_)
  · go_simp
  try simp only [Act.put, List.setIfInBounds_toArray, List.set_cons_zero, List.set_cons_succ]
  refine wpAnyS_take (i := 1) (fun w' => w'.cell? ⟨w.heap.size, 1, none⟩ = some (.string d.name)) (v := .string d.name) rfl (by kernel_rfl) (by kernel_rfl) (by kernel_rfl) (fun _ _ _ h => h) (fun l w hw hS => hS.box.cell 1) (fun _ _ => Iff.rfl) (by kernel_rfl) hS (fun w' hSw => ?_) (by rfl) (fun hS => ?_)
  · go_simp
  try simp only [Act.put, List.setIfInBounds_toArray, List.set_cons_zero, List.set_cons_succ]
  refine wpAnyS_take (i := 3) (fun _ => True) (v := .pointer (some ⟨w.heap.size, 3, none⟩)) rfl (by kernel_rfl) (by kernel_rfl) (by kernel_rfl) (fun _ _ _ h => h) (fun _ _ _ _ => trivial) (fun _ _ => Iff.rfl) (by kernel_rfl) hS (fun w' hSw => ?_) (by rfl) (fun hS => ?_)
  · go_simp
  try simp only [Act.put, List.setIfInBounds_toArray, List.set_cons_zero, List.set_cons_succ]
  refine wpAnyS_take (i := 4) (fun w' => w'.cell? ⟨w.heap.size, 3, none⟩ = some (.string d.evr)) (v := .string d.evr) rfl (by kernel_rfl) (by kernel_rfl) (by kernel_rfl) (fun _ _ _ h => h) (fun l w hw hS => hS.box.cell 3) (fun _ _ => Iff.rfl) (by kernel_rfl) hS (fun w' hSw => ?_) (by rfl) (fun hS => ?_)
  · go_simp
  try simp only [Act.put, List.setIfInBounds_toArray, List.set_cons_zero, List.set_cons_succ]
  generalize ((w.alloc _).alloc _).drew = w1 at hS ⊢
  refine wpAnyS_one (i := 2) (by kernel_rfl) rfl (fun K2 hK2 => ?_)
  go_simp
  refine (CN.out _).mono ?_
  rintro e w2 ⟨rfl, hb2⟩
  have hS2 := hS.below_ hb2
  clear hb2 hS
  refine hK2.out _ _ hS2 (fun hS => ?_)
  clear hK2 K2 hS2
  try simp only [Act.put, List.setIfInBounds_toArray, List.set_cons_zero, List.set_cons_succ]
  refine wpAnyS_take (i := 6) (fun _ => True) (v := .pointer (some ⟨w.heap.size, 1, none⟩)) rfl (by kernel_rfl) (by kernel_rfl) (by kernel_rfl) (fun _ _ _ h => h) (fun _ _ _ _ => trivial) (fun _ _ => Iff.rfl) (by kernel_rfl) hS (fun w' hSw => ?_) (by rfl) (fun hS => ?_)
  · go_simp
  try simp only [Act.put, List.setIfInBounds_toArray, List.set_cons_zero, List.set_cons_succ]
  refine wpAnyS_one (i := 5) (by kernel_rfl) rfl (fun K5 hK5 => ?_)
  go_simp
  refine (CV.out _).mono ?_
  rintro e w3 ⟨rfl, hb3⟩
  have hS3 := hS.below_ hb3
  clear hb3 hS
  refine hK5.out _ _ hS3 (fun hS => ?_)
  clear hK5 K5 hS3
  try simp only [Act.put, List.setIfInBounds_toArray, List.set_cons_zero, List.set_cons_succ]
  have x7 := hS.box.cell 1
  have y7 := hS.box.free 1
  unfold rowD at x7
  simp at x7
  have hS7 := hS.set_ (i := 1) (u := .string d.name) rfl
  clear hS
  refine wpAnyS_one (i := 7) (by kernel_rfl) rfl (fun K7 hK7 => ?_)
  go_simp
  refine hK7.out _ _ hS7 (fun hS => ?_)
  clear hK7 K7 hS7 x7 y7
  try simp only [Act.put, List.setIfInBounds_toArray, List.set_cons_zero, List.set_cons_succ]
  refine wpAnyS_take (i := 8) (fun _ => True) (v := .pointer (some ⟨w.heap.size, 3, none⟩)) rfl (by kernel_rfl) (by kernel_rfl) (by kernel_rfl) (fun _ _ _ h => h) (fun _ _ _ _ => trivial) (fun _ _ => Iff.rfl) (by kernel_rfl) hS (fun w' hSw => ?_) (by rfl) (fun hS => ?_)
  · go_simp
  try simp only [Act.put, List.setIfInBounds_toArray, List.set_cons_zero, List.set_cons_succ]
  have x9 := hS.box.cell 3
  have y9 := hS.box.free 3
  unfold rowD at x9
  simp at x9
  have hS9 := hS.set_ (i := 3) (u := .string d.evr) rfl
  clear hS
  refine wpAnyS_one (i := 9) (by kernel_rfl) rfl (fun K9 hK9 => ?_)
  go_simp
  refine hK9.out _ _ hS9 (fun hS => ?_)
  clear hK9 K9 hS9 x9 y9
  try simp only [Act.put, List.setIfInBounds_toArray, List.set_cons_zero, List.set_cons_succ]
  refine wpAnyS_done (by kernel_rfl) ?_ _
  generalize hwz : World.setCell _ _ _ = wz at hS ⊢
  clear hwz
  refine hK _ _ ?_
  clear hK K
  have C := Lib.hid (HLA.out wz hS.below)
  have HS := Lib.hid hS
  have q4 := hS.box.cell 4
  unfold rowD at q4
  simp at q4
  clear hS HLA
  go_wp2_with fail
  refine C.out.mono ?_
  rintro e w4 ⟨hb4, A', n', S', rfl, hL4, hC4, hS4⟩
  obtain ⟨A2, c2, hx, hl1, hl2, hl3, hA2⟩ := hL4
  injection hx with e1 _ e3
  subst e1; subst e3
  have hS := HS.out.below_ hb4
  have hzr := hS.room.lt
  have hzz := HS.out.room.lt
  have ht5 : Turned [w.heap.size, w.heap.size + 1] w4 ((((((w4.setCell ⟨w.heap.size, 4, none⟩ (.slice A' d.args.length n')).setCell ⟨w.heap.size + 1, 0, none⟩ (.int .i64 d.kind)).setCell ⟨w.heap.size + 1, 1, none⟩ (.string d.name)).setCell ⟨w.heap.size + 1, 2, none⟩ (.int .i64 d.op)).setCell ⟨w.heap.size + 1, 3, none⟩ (.string d.evr)).setCell ⟨w.heap.size + 1, 4, none⟩ (.slice A' d.args.length n')) :=
    ((((((Turned.refl _ _).setCell (.inl (by simp)) _).setCell (.inl (by simp)) _).setCell (.inl (by simp)) _).setCell (.inl (by simp)) _).setCell (.inl (by simp)) _).setCell (.inl (by simp)) _
  have hst : StayS S' w4 ((((((w4.setCell ⟨w.heap.size, 4, none⟩ (.slice A' d.args.length n')).setCell ⟨w.heap.size + 1, 0, none⟩ (.int .i64 d.kind)).setCell ⟨w.heap.size + 1, 1, none⟩ (.string d.name)).setCell ⟨w.heap.size + 1, 2, none⟩ (.int .i64 d.op)).setCell ⟨w.heap.size + 1, 3, none⟩ (.string d.evr)).setCell ⟨w.heap.size + 1, 4, none⟩ (.slice A' d.args.length n')) :=
    StayS.turned ht5 fun b hb hm => by have := hS4 b hb; simp at hm; omega
  have HL : Hid _ := load5d (five_blk' (hS.room.far (p := ⟨w.heap.size, 4, none⟩) (by simp) (.slice A' d.args.length n')) d (.slice A' d.args.length n'))
  have HP : Hid (Below w.heap.size w _ ∧ ∃ A c S', Ending.returned (.agg (rowD d (.slice A' d.args.length n'))) = .returned (.agg (rowD d (.slice A d.args.length c))) ∧ Lay _ S' d (.slice A d.args.length c) ∧ CleanS _ S' ∧ ∀ b, S' b → w.heap.size ≤ b) :=
    ⟨hS.below.trans (ht5.below (fun k hk => by simp at hk; omega) hS.below.size), A', n', S', rfl, (lay_iff.2 ⟨A', n', rfl, hl1, ⟨hl2, hl3⟩, hA2⟩).stay (fun _ h => h) hst, hC4.stay hst, fun b hb => by have := hS4 b hb; omega⟩
  have KB := hS.box
  have KR := hS.room
  unfold rowD at KB HP HL
  unfold zr5 at KR
  have q0 := KB.cell 0
  have q1 := KB.cell 1
  have q2 := KB.cell 2
  have q3 := KB.cell 3
  have q4 := KB.cell 4
  have g4 := KB.free 4
  have z0 := KR.cell 0
  have z1 := KR.cell 1
  have z2 := KR.cell 2
  have z3 := KR.cell 3
  have z4 := KR.cell 4
  have f0 := KR.free 0
  have f1 := KR.free 1
  have f2 := KR.free 2
  have f3 := KR.free 3
  have f4 := KR.free 4
  simp at q0 q1 q2 q3 q4 z0 z1 z2 z3 z4
  clear hS hzr hzz ht5 hst KB KR hb4 hl1 hl2 hl3 hA2 hC4 hS4 C HS CN CV
  go_wp2_with fail
  refine bodyPost_ret (v := .agg #[.int .i64 d.kind, .string d.name, .int .i64 d.op, .string d.evr, .slice A' d.args.length n']) ?_ rfl HP.out
  refine (results_cell rfl _ (ad := ⟨w.heap.size + 1, 0, none⟩) rfl).trans ?_
  exact HL.out
theorem apart_any (d : Dep) : ApartOk d := by
  induction d using Dep.ind with
  | h k n o e xs ih => exact apart_node _ ih
/-- A list of dependencies in memory of its own. -/
theorem listApart_any (ds : List Dep) (s : Value) (S : Nat → Prop) (w0 : World) (hL : ListAt w0 S ds s) (hsm : ∀ d ∈ ds, small d ∧ nodes d ≤ 4194304) (hn : ds.length ≤ 4194304) :
    Calls Tryd.prog 62 #[s, .func (.func 63) #[] #[]] w0 (ListNew w0 ds) := listApart_of ds (fun d _ => apart_any d) s S w0 hL hsm hn
end Go.Proofs.YtinldjjbfhpnkaaDoor
