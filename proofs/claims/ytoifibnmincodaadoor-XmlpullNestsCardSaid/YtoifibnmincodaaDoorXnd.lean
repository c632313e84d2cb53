/- Next where an error stands; Next at the end. -/
import Derived.Test.YtoifibnmincodaaDoorXny
import Derived.Test.YtoifibnmincodaaDoorXmu
namespace Go.Proofs.YtoifibnmincodaaDoor
set_option linter.unusedSimpArgs false
set_option linter.unusedVariables false
open Go.RowKit

theorem nextR_done {s s' : XS} {pc : Pc} (ho : XOk s) (h : nextR s = .ok (pc, s')) (h4 : pc.kind = 4) : pc = ⟨4, [], [], []⟩ ∧ nextR s' = .ok (pc, s') := by
  cases hs : s.short with
  | true =>
    rw [nextR_short hs] at h
    injection h with h
    have hm := (leaveR_mu { s with short := false }).2.2.2
    rw [h] at hm
    rw [h4] at hm; cases hm
  | false =>
    rw [nextR_eq hs] at h
    obtain ⟨x, hx, h⟩ := bind_ok h
    have h0 := runR_len _ hx
    have hT : nextT s x = .ok (pc, s') → False := fun h => (nextT_mu h0 hs ho.opn h).2.2.2 h4
    split at h
    · split at h
      · injection h with h
        injection h with h1 h2
        subst h1; cases h4
      · split at h
        · cases h
        · exact (hT h).elim
    · rename_i hop
      split at h
      · split at h
        · split at h
          · rename_i hbg
            injection h with h
            injection h with h1 h2
            subst h1; subst h2
            refine ⟨rfl, ?_⟩
            rw [nextR_eq (show ({ s with rest := ([] : Bs) } : XS).short = false from hs)]
            have hr : runR (({ s with rest := ([] : Bs) } : XS).rest.length + 1) [] ({ s with rest := ([] : Bs) } : XS).rest = .ok ([], []) := by kernel_rfl
            rw [hr]
            show (if 0 < s.opn.length then _ else _) = _
            rw [if_neg hop]
            show (if allLay [] = true then (if ([] : Bs) = [] then (if s.begun = true then _ else _) else _) else _) = _
            rw [if_pos (show allLay [] = true from rfl), if_pos (show ([] : Bs) = [] from rfl), if_pos hbg]
          · cases h
        · exact (hT h).elim
      · cases h
section
variable {w w' w0 : World} {B base g : Nat} {vo : Value} {s : XS} {k : Int}
set_option maxHeartbeats 8000000 in
set_option maxRecDepth 1000000 in
theorem Next_dead (h : XRd w base g vo s k) (hk : k ≠ 0) :
    Calls Tryd.prog 8 #[.pointer (some ⟨g, 0, none⟩)] w fun e w' => e = .returned (.tuple #[.agg zeroP, .int .i64 k]) ∧ XRd w' base g vo s k ∧ Below w.heap.size w w' := by
  have hz := fOf_lt h
  obtain ⟨W, hW⟩ : ∃ W, W = NW w g := ⟨_, rfl⟩
  have T0 : Turned [] w W := by subst hW; exact (((Turned.refl _ _).alloc _).alloc _).alloc _
  have K1 : Blk W w.heap.size 35 #[.pointer (some ⟨g, 0, none⟩)] := by subst hW; exact ((Blk.new _ _ _).alloc _).alloc _
  have K2 : Blk W (w.heap.size + 1) 30 zeroP := by subst hW; exact (Blk.new' (by simp)).alloc _
  have K3 : Blk W (w.heap.size + 2) 30 zeroP := by subst hW; exact Blk.new' (by simp)
  have X0 := h.turned T0 (fun k hk => by cases hk)
  have hzg := hz g (g_mem _ _)
  have hg2 : ¬ g = w.heap.size + 1 := by omega
  unfold NW at hW
  have tk : (k == 0) = false := beq_eq_false_iff_ne.2 hk
  clear hz h hk
  go_enter Tryd.func8, Tryd.ntmps8
  go_upto_region 4 with fail
  rw [← hW]
  clear hW
  have l1 : W.cell? ⟨w.heap.size, 0, none⟩ = some (.pointer (some ⟨g, 0, none⟩)) := K1.cell 0
  have l30 : W.cell? ⟨w.heap.size + 2, 0, none⟩ = some (.int .i64 0) := K3.cell 0
  have l31 : W.cell? ⟨w.heap.size + 2, 1, none⟩ = some (.string ⟨#[]⟩) := K3.cell 1
  have l32 : W.cell? ⟨w.heap.size + 2, 2, none⟩ = some (.slice none 0 0) := K3.cell 2
  have l33 : W.cell? ⟨w.heap.size + 2, 3, none⟩ = some (.string ⟨#[]⟩) := K3.cell 3
  have l5 : W.cell? ⟨g, 4, none⟩ = some (.int .i64 k) := Blk.cell X0.blk 4
  have l20 := K2.cell 0
  have l21 := K2.cell 1
  have l22 := K2.cell 2
  have l23 := K2.cell 3
  have f20 := K2.free 0
  have f21 := K2.free 1
  have f22 := K2.free 2
  have f23 := K2.free 3
  unfold zeroP at l20 l21 l22 l23
  simp at l20 l21 l22 l23
  have HB2 := Lib.hid (put4_blk (a := .int .i64 0) (b := .string ⟨#[]⟩) (c := .slice none 0 0) (d := .string ⟨#[]⟩) K2)
  have HT2 : Turned [w.heap.size + 1] W (put4 W (w.heap.size + 1) (.int .i64 0) (.string ⟨#[]⟩) (.slice none 0 0) (.string ⟨#[]⟩)) := put4_turned
  have X6 := X0.turned HT2 (fun k hk hm => by simp at hk; subst hk; exact X0.not_kind hm (by decide) (by decide) K2)
  have T6 := T0.new_ HT2 (by omega)
  have m1 : (put4 W (w.heap.size + 1) (.int .i64 0) (.string ⟨#[]⟩) (.slice none 0 0) (.string ⟨#[]⟩)).cell? ⟨w.heap.size, 0, none⟩ = some (.pointer (some ⟨g, 0, none⟩)) := (K1.turned HT2 (by simp)).cell 0
  have m3 := K3.turned HT2 (by simp)
  have m30 : (put4 W (w.heap.size + 1) (.int .i64 0) (.string ⟨#[]⟩) (.slice none 0 0) (.string ⟨#[]⟩)).cell? ⟨w.heap.size + 2, 0, none⟩ = some (.int .i64 0) := m3.cell 0
  have m31 : (put4 W (w.heap.size + 1) (.int .i64 0) (.string ⟨#[]⟩) (.slice none 0 0) (.string ⟨#[]⟩)).cell? ⟨w.heap.size + 2, 1, none⟩ = some (.string ⟨#[]⟩) := m3.cell 1
  have m32 : (put4 W (w.heap.size + 1) (.int .i64 0) (.string ⟨#[]⟩) (.slice none 0 0) (.string ⟨#[]⟩)).cell? ⟨w.heap.size + 2, 2, none⟩ = some (.slice none 0 0) := m3.cell 2
  have m33 : (put4 W (w.heap.size + 1) (.int .i64 0) (.string ⟨#[]⟩) (.slice none 0 0) (.string ⟨#[]⟩)).cell? ⟨w.heap.size + 2, 3, none⟩ = some (.string ⟨#[]⟩) := m3.cell 3
  have m5 : (put4 W (w.heap.size + 1) (.int .i64 0) (.string ⟨#[]⟩) (.slice none 0 0) (.string ⟨#[]⟩)).cell? ⟨g, 4, none⟩ = some (.int .i64 k) := Blk.cell X6.blk 4
  have HM := Lib.hid (And.intro m1 (And.intro m5 (And.intro m30 (And.intro m31 (And.intro m32 m33)))))
  have HF : Hid (Ending.returned (.tuple #[.agg #[.int .i64 0, .string ⟨#[]⟩, .slice none 0 0, .string ⟨#[]⟩], .int .i64 k]) = .returned (.tuple #[.agg zeroP, .int .i64 k]) ∧ XRd ((put4 W (w.heap.size + 1) (.int .i64 0) (.string ⟨#[]⟩) (.slice none 0 0) (.string ⟨#[]⟩)).drew) base g vo s k ∧ Below w.heap.size w ((put4 W (w.heap.size + 1) (.int .i64 0) (.string ⟨#[]⟩) (.slice none 0 0) (.string ⟨#[]⟩)).drew)) := ⟨rfl, X6.drew, T6.drew.of_nil⟩
  clear m1 m3 m30 m31 m32 m33 m5 HT2 X6 T6 X0 K1 K2 K3 T0
  go_upto_region 6 with fail
  refine wp_region_S (fun _ w' => w'.cell? ⟨w.heap.size, 0, none⟩ = some (.pointer (some ⟨g, 0, none⟩)) ∧ w'.cell? ⟨g, 4, none⟩ = some (.int .i64 k) ∧ w'.cell? ⟨w.heap.size + 2, 0, none⟩ = some (.int .i64 0) ∧ w'.cell? ⟨w.heap.size + 2, 1, none⟩ = some (.string ⟨#[]⟩) ∧ w'.cell? ⟨w.heap.size + 2, 2, none⟩ = some (.slice none 0 0) ∧ w'.cell? ⟨w.heap.size + 2, 3, none⟩ = some (.string ⟨#[]⟩)) (by kernel_rfl) ⟨l1, l5, l30, l31, l32, l33⟩ (fun hS => ?_)
  refine wpAnyS_take (i := 0) (fun w' => w'.cell? ⟨w.heap.size, 0, none⟩ = some (.pointer (some ⟨g, 0, none⟩)) ∧ w'.cell? ⟨g, 4, none⟩ = some (.int .i64 k) ∧ w'.cell? ⟨w.heap.size + 2, 0, none⟩ = some (.int .i64 0) ∧ w'.cell? ⟨w.heap.size + 2, 1, none⟩ = some (.string ⟨#[]⟩) ∧ w'.cell? ⟨w.heap.size + 2, 2, none⟩ = some (.slice none 0 0) ∧ w'.cell? ⟨w.heap.size + 2, 3, none⟩ = some (.string ⟨#[]⟩)) (v := .agg #[.int .i64 0, .string ⟨#[]⟩, .slice none 0 0, .string ⟨#[]⟩]) rfl (by kernel_rfl) (by kernel_rfl) (by kernel_rfl) (fun _ _ _ h => h) (fun l w hw hS => hS) (fun _ _ => Iff.rfl) (by kernel_rfl) hS (fun w' hSw => ?_) (by kernel_rfl) (fun hS => ?_)
  · obtain ⟨s1, s2, s3, s4, s5, s6⟩ := hSw
    go_simp
  try simp only [List.getElem_toArray, List.getElem_cons_zero, List.getElem_cons_succ, Act.put, List.setIfInBounds_toArray, List.set_cons_zero, List.set_cons_succ]
  refine wpAnyS_take (i := 1) (fun w' => w'.cell? ⟨w.heap.size, 0, none⟩ = some (.pointer (some ⟨g, 0, none⟩)) ∧ w'.cell? ⟨g, 4, none⟩ = some (.int .i64 k) ∧ w'.cell? ⟨w.heap.size + 2, 0, none⟩ = some (.int .i64 0) ∧ w'.cell? ⟨w.heap.size + 2, 1, none⟩ = some (.string ⟨#[]⟩) ∧ w'.cell? ⟨w.heap.size + 2, 2, none⟩ = some (.slice none 0 0) ∧ w'.cell? ⟨w.heap.size + 2, 3, none⟩ = some (.string ⟨#[]⟩)) (v := .pointer (some ⟨g, 0, none⟩)) rfl (by kernel_rfl) (by kernel_rfl) (by kernel_rfl) (fun _ _ _ h => h) (fun l w hw hS => hS) (fun _ _ => Iff.rfl) (by kernel_rfl) hS (fun w' hSw => ?_) (by kernel_rfl) (fun hS => ?_)
  · obtain ⟨s1, s2, s3, s4, s5, s6⟩ := hSw
    go_simp
  try simp only [List.getElem_toArray, List.getElem_cons_zero, List.getElem_cons_succ, Act.put, List.setIfInBounds_toArray, List.set_cons_zero, List.set_cons_succ]
  refine wpAnyS_take (i := 2) (fun w' => w'.cell? ⟨w.heap.size, 0, none⟩ = some (.pointer (some ⟨g, 0, none⟩)) ∧ w'.cell? ⟨g, 4, none⟩ = some (.int .i64 k) ∧ w'.cell? ⟨w.heap.size + 2, 0, none⟩ = some (.int .i64 0) ∧ w'.cell? ⟨w.heap.size + 2, 1, none⟩ = some (.string ⟨#[]⟩) ∧ w'.cell? ⟨w.heap.size + 2, 2, none⟩ = some (.slice none 0 0) ∧ w'.cell? ⟨w.heap.size + 2, 3, none⟩ = some (.string ⟨#[]⟩)) (v := .pointer (some ⟨g, 0, none⟩)) rfl (by kernel_rfl) (by kernel_rfl) (by kernel_rfl) (fun _ _ _ h => h) (fun l w hw hS => hS) (fun _ _ => Iff.rfl) (by kernel_rfl) hS (fun w' hSw => ?_) (by kernel_rfl) (fun hS => ?_)
  · obtain ⟨s1, s2, s3, s4, s5, s6⟩ := hSw
    go_simp
  try simp only [List.getElem_toArray, List.getElem_cons_zero, List.getElem_cons_succ, Act.put, List.setIfInBounds_toArray, List.set_cons_zero, List.set_cons_succ]
  refine wpAnyS_take (i := 3) (fun w' => w'.cell? ⟨w.heap.size, 0, none⟩ = some (.pointer (some ⟨g, 0, none⟩)) ∧ w'.cell? ⟨g, 4, none⟩ = some (.int .i64 k) ∧ w'.cell? ⟨w.heap.size + 2, 0, none⟩ = some (.int .i64 0) ∧ w'.cell? ⟨w.heap.size + 2, 1, none⟩ = some (.string ⟨#[]⟩) ∧ w'.cell? ⟨w.heap.size + 2, 2, none⟩ = some (.slice none 0 0) ∧ w'.cell? ⟨w.heap.size + 2, 3, none⟩ = some (.string ⟨#[]⟩)) (v := .pointer (some ⟨g, 4, none⟩)) rfl (by kernel_rfl) (by kernel_rfl) (by kernel_rfl) (fun _ _ _ h => h) (fun l w hw hS => hS) (fun _ _ => Iff.rfl) (by kernel_rfl) hS (fun w' hSw => ?_) (by kernel_rfl) (fun hS => ?_)
  · obtain ⟨s1, s2, s3, s4, s5, s6⟩ := hSw
    go_simp
  try simp only [List.getElem_toArray, List.getElem_cons_zero, List.getElem_cons_succ, Act.put, List.setIfInBounds_toArray, List.set_cons_zero, List.set_cons_succ]
  refine wpAnyS_take (i := 4) (fun w' => w'.cell? ⟨w.heap.size, 0, none⟩ = some (.pointer (some ⟨g, 0, none⟩)) ∧ w'.cell? ⟨g, 4, none⟩ = some (.int .i64 k) ∧ w'.cell? ⟨w.heap.size + 2, 0, none⟩ = some (.int .i64 0) ∧ w'.cell? ⟨w.heap.size + 2, 1, none⟩ = some (.string ⟨#[]⟩) ∧ w'.cell? ⟨w.heap.size + 2, 2, none⟩ = some (.slice none 0 0) ∧ w'.cell? ⟨w.heap.size + 2, 3, none⟩ = some (.string ⟨#[]⟩)) (v := .int .i64 k) rfl (by kernel_rfl) (by kernel_rfl) (by kernel_rfl) (fun _ _ _ h => h) (fun l w hw hS => hS) (fun _ _ => Iff.rfl) (by kernel_rfl) hS (fun w' hSw => ?_) (by kernel_rfl) (fun hS => ?_)
  · obtain ⟨s1, s2, s3, s4, s5, s6⟩ := hSw
    go_simp
  try simp only [List.getElem_toArray, List.getElem_cons_zero, List.getElem_cons_succ, Act.put, List.setIfInBounds_toArray, List.set_cons_zero, List.set_cons_succ]
  refine wpAnyS_one (i := 5) (by kernel_rfl) rfl (fun K7 hK7 => ?_)
  go_simp
  unfold put4 at HM HF HB2
  refine hK7.out _ _ HM.out (fun hS => ?_)
  clear hK7 K7
  try simp only [List.getElem_toArray, List.getElem_cons_zero, List.getElem_cons_succ, Act.put, List.setIfInBounds_toArray, List.set_cons_zero, List.set_cons_succ]
  refine wpAnyS_one (i := 6) (by kernel_rfl) rfl (fun K7 hK7 => ?_)
  go_simp
  refine hK7.out _ _ HM.out (fun hS => ?_)
  clear hK7 K7
  try simp only [List.getElem_toArray, List.getElem_cons_zero, List.getElem_cons_succ, Act.put, List.setIfInBounds_toArray, List.set_cons_zero, List.set_cons_succ]
  refine wpAnyS_done (by kernel_rfl) ?_ _
  clear hS l1 l5 l20 l21 l22 l23 l30 l31 l32 l33 f20 f21 f22 f23
  go_wp2_with fail
  refine bodyPost_ret (v := .tuple #[.agg #[.int .i64 0, .string ⟨#[]⟩, .slice none 0 0, .string ⟨#[]⟩], .int .i64 k]) ?_ rfl HF.out
  refine (results_ct (t := 2) (u := 3) rfl _ (ad := ⟨w.heap.size + 1, 0, none⟩) rfl (pc_load HB2.out.drew)).trans ?_
  rfl
end
end Go.Proofs.YtoifibnmincodaaDoor
