/- JobsNames, JobsBack: the laws at what came in. -/
import Derived.Test.YtciogfpejenedaaDoorJbK
import Derived.Test.YtciogfpejenedaaDoorDTabs
import Derived.Test.YtciogfpejenedaaDoorUp
import Derived.Shelf.Vars
import Derived.LaidLaws
namespace Go.Proofs.YtciogfpejenedaaDoor
set_option linter.unusedSimpArgs false
set_option linter.unusedVariables false
open Go.RowKit Go.WideShapes

theorem jmax_of {W : World} (hS : W.ShapedOpen Tryd.prog) : MaxAt W := Go.Proofs.cell_of_shapedOpen_int (zero := #[.int .i64 0]) (t := 3) hS (of_decide_eq_true (by kernel_rfl)) (by kernel_rfl) rfl (by kernel_rfl) (by kernel_rfl) Tryd.underlying3
theorem jbW_of {W : World} {laid : List (String × DataW Unit)} (hL : laidMet Tryd.prog laid W) (hd1 : ("chandler/dep.signs", Rows.laid_chandler_dep_signs) ∈ laid) (hd2 : ("chandler/dep.words", Rows.laid_chandler_dep_words) ∈ laid)
    (hk : ("chandler/jobs.kinds", Rows.laid_chandler_jobs_kinds) ∈ laid) (hh : ("chandler/jobs.hows", Rows.laid_chandler_jobs_hows) ∈ laid) (hS : W.ShapedOpen Tryd.prog) : JbW W :=
  ⟨tabs_of hL hd1 hd2,
    tab_blk (l := [[], kw1, kw2, kw3, kw4, kw5, kw6, kw7]) hL hk (by kernel_rfl) (by kernel_rfl) Tryd.underlying33 Tryd.underlying9 (by kernel_rfl) (by kernel_rfl) (by decide),
    tab_blk (l := [[], hw1, hw2, hw3, hw4, hw5]) hL hh (by kernel_rfl) (by kernel_rfl) Tryd.underlying35 Tryd.underlying9 (by kernel_rfl) (by kernel_rfl) (by decide), jmax_of hS⟩
theorem jobsNames_walk (W : World) (hL : laidMetH Tryd.prog Rows.jobsNamesRow.laid W) (hSh : W.ShapedOpen Tryd.prog) : Calls Tryd.prog 3 #[] W (TrueBelow W) := by
  rw [MakeChecks.laidMetH_plain _ _ _ (by kernel_rfl)] at hL
  exact jobsNames_any W (jbW_of hL (by simp [Rows.jobsNamesRow]) (by simp [Rows.jobsNamesRow]) (by simp [Rows.jobsNamesRow]) (by simp [Rows.jobsNamesRow]) hSh)
theorem small_strJb {H : Type} {s : ByteArray} {d : DataW H} {ds : List (DataW H)} (hd : d = .lit (.string s.data.toList)) (hm : d ∈ ds) (hk : Rows.uptoBulkAll ds ≤ 1048576) : s.data.toList.length ≤ 1048576 := by
  have h1 : ∀ (l : List (DataW H)) x, x ∈ l → Rows.uptoBulk x ≤ Rows.uptoBulkAll l := by
    intro l
    induction l with
    | nil => intro x hx; cases hx
    | cons y l ih =>
      intro x hx
      rw [Rows.uptoBulkAll]
      rcases List.mem_cons.1 hx with rfl | hx
      · omega
      · have := ih x hx; omega
  have h2 := h1 ds d hm
  rw [hd, Rows.uptoBulk] at h2
  omega
set_option maxRecDepth 100000 in
/-- A job that came in. -/
theorem In.job {H : Type} {enc : TypeId × Value → H} {W : World} {v : Value} {di : DataW H} (hin : In enc Tryd.prog W 24 v di) :
    ∃ (k h : Int) (s : ByteArray), v = .agg #[.int .i64 k, .int .i64 h, .string s] ∧ s.data.toList.length ≤ Rows.uptoBulk di := by
  obtain ⟨⟨b, hv⟩, ps, fuel, hf⟩ := hin
  obtain ⟨cs, rfl, hs⟩ := okWide_struct Tryd.underlying24 hv
  obtain ⟨xs, n, _, hx, hl, hxl, hf⟩ := DataW.trod_struct Tryd.underlying24 hf
  have hl3 : cs.toList.length = 3 := hl.trans (by kernel_rfl)
  have hx3 : xs.length = 3 := hxl.trans (by kernel_rfl)
  have k3 : Tryd.prog.cellsOf 3 = 1 := by kernel_rfl
  have k9 : Tryd.prog.cellsOf 9 = 1 := by kernel_rfl
  obtain ⟨l⟩ := cs
  have hl3 : l.length = 3 := hl3
  match l, hl3, xs, hx3, hx, hf with
  | [c0, c1, c2], _, [x0, x1, x2], _, hx, hf =>
    have h0 := hf 0 _ rfl
    have h1 := hf 1 _ rfl
    have h2 := hf 2 _ rfl
    simp only [Value.cells, k3, k9, List.drop_zero, List.drop_succ_cons, List.take_succ_cons, List.take_zero, List.getElem?_cons_zero, List.getElem?_cons_succ] at h0 h1 h2
    obtain ⟨K, e0, y0, _⟩ := DataW.trod_int Tryd.underlying3 h0
    obtain ⟨h', e1, y1, _⟩ := DataW.trod_int Tryd.underlying3 h1
    obtain ⟨s, e2, y2, _⟩ := DataW.trod_string Tryd.underlying9 h2
    injection e0 with e0
    injection e1 with e1
    injection e2 with e2
    subst e0 e1 e2
    simp only [Prod.mk.injEq] at hx
    refine ⟨K, h', s, rfl, ?_⟩
    rw [hx.1, y0, y1, y2]
    simp [Rows.uptoBulk, Rows.uptoBulkAll]
    omega
theorem jobsBack_walk {H : Type} {enc : TypeId × Value → H} (W : World) {v0 v1 : Value} {d0 d1 : DataW H} (h0 : In enc Tryd.prog W 24 v0 d0) (h1 : In enc Tryd.prog W 9 v1 d1)
    (hL : laidMetH Tryd.prog Rows.jobsBackUptoRow.laid W) (hk : Rows.uptoBulkAll ([d0, d1] ++ []) ≤ 1048576) (hSh : W.ShapedOpen Tryd.prog) :
    Calls Tryd.prog 4 #[v0, v1] W (TrueBelow W) := by
  obtain ⟨k, h, s, rfl, hb⟩ := In.job h0
  obtain ⟨s1, rfl, e1, -⟩ := h1.string Tryd.underlying9
  have l1 := small_strJb e1 (by simp) hk
  have l0 : s.size ≤ 1048576 := by
    have := size_len s
    simp only [List.append_nil, Rows.uptoBulkAll] at hk
    omega
  rw [MakeChecks.laidMetH_plain _ _ _ (by kernel_rfl)] at hL
  have hE := jbW_of hL (by simp [Rows.jobsBackUptoRow]) (by simp [Rows.jobsBackUptoRow]) (by simp [Rows.jobsBackUptoRow]) (by simp [Rows.jobsBackUptoRow]) hSh
  rw [← mk_back s1]
  exact jobsBack_any k h s _ l0 l1 W hE
end Go.Proofs.YtciogfpejenedaaDoor
