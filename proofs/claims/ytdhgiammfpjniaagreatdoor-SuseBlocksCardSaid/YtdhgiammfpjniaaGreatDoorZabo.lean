/- What the rows list of the two tables, as blocks. SuseNames, SuseJoins: the laws at what came in. -/
import Derived.Test.YtdhgiammfpjniaaGreatDoorZaak
import Derived.Test.YtdhgiammfpjniaaGreatDoorRows
import Derived.Stop.LaidErr
import Derived.MakeChecks
import Derived.OpenShut
import Derived.Test.YtdhgiammfpjniaaGreatDoorZabl
import Derived.Test.YtdhgiammfpjniaaGreatDoorZabn
import Derived.Test.YtdhgiammfpjniaaGreatDoorZabi
import Derived.Test.YtdhgiammfpjniaaGreatDoorZaaa
import Derived.Shelf.Vars
import Derived.LaidLaws
/- What the rows list of the two tables, as blocks. -/
namespace Go.Proofs.YtdhgiammfpjniaaGreatDoor.Ev
set_option linter.unusedSimpArgs false
set_option linter.unusedVariables false
open Go.RowKit

def strData {H : Type} (l : List (List UInt8)) : DataW H := .agg (l.map fun s => .lit (.string s))
/-- An array of texts that reads as these holds these. -/
theorem cells_of_strs {H : Type} {enc : TypeId × Value → H} {P : Program} {w : World} {base : Nat} {sp : Nat → Bool} {held : Bool} {fuel : Nat} {t e : TypeId} {n : Nat} {cs : List Value} {l : List (List UInt8)} {p : List MemPlace}
    (ht : P.underlying t = some (.array n e)) (he : P.underlying e = some .string) (hce : P.cellsOf e = 1) (hct : P.cellsOf t = n)
    (h : DataW.trod enc P w base sp held fuel t cs = some (strData l, p)) : cs = l.map fun s => Value.string (mkS s) := by
  obtain ⟨xs, m, _, hx, hl, hxl, hi⟩ := DataW.trod_array ht h
  have hxs : (l.map fun s => (DataW.lit (.string s) : DataW H)) = xs.map (·.1) := by
    have := congrArg Prod.fst hx
    simpa [strData] using this
  have hll : l.length = n := by
    have := congrArg List.length hxs
    simp at this
    omega
  rw [hct] at hl
  apply List.ext_getElem?
  intro i
  by_cases hlt : i < n
  · have hxi : xs[i]? = some (xs[i]'(by omega)) := List.getElem?_eq_getElem (by omega)
    have h1 := hi i hlt
    rw [hce, Nat.mul_one, hxi] at h1
    obtain ⟨s, hc, hxe, _⟩ := DataW.trod_string he h1
    have h2 : cs[i]? = some (.string s) := by
      have := congrArg (·[0]?) hc
      simpa [List.getElem?_take, List.getElem?_drop] using this
    have h3 : (xs.map (·.1))[i]? = some (DataW.lit (.string s.data.toList) : DataW H) := by rw [List.getElem?_map, hxi, hxe]; rfl
    rw [← hxs, List.getElem?_map, List.getElem?_eq_getElem (by omega)] at h3
    simp only [Option.map_some, Option.some.injEq, DataW.lit.injEq, Lit.string.injEq] at h3
    rw [h2, List.getElem?_map, List.getElem?_eq_getElem (by omega)]
    simp only [Option.map_some, Option.some.injEq, Value.string.injEq]
    rw [h3]
    rfl
  · rw [List.getElem?_eq_none (by omega), List.getElem?_eq_none (by simp; omega)]
theorem laidVars_mem {P : Program} {w : World} : ∀ (laid : List (String × DataW Unit)) (ps : List MemPlace), DataW.LaidVars P w laid ps → ∀ n d, (n, d) ∈ laid →
    ∃ g t cs fuel p, P.globalNamed n = some g ∧ (P.globals[g]?).map (·.type) = some t ∧ w.var? P n = some cs ∧ DataW.trod (fun _ => ()) P w 0 (fun _ => true) false fuel t cs.toList = some (d, p) ∧ ∀ x ∈ MemPlace.row ⟨g, 0, none⟩ cs.size, x ∈ ps
  | [], ps, h, n, d, hm => by cases hm
  | (n0, d0) :: r, ps, h, n, d, hm => by
    obtain ⟨g, t, cs, fuel, p, q, h1, h2, h3, h4, h5, rfl⟩ := h
    rcases List.mem_cons.1 hm with he | hm
    · injection he with e1 e2
      subst e1
      subst e2
      exact ⟨g, t, cs, fuel, p, h1, h2, h3, h4, fun x hx => by simp [hx]⟩
    · obtain ⟨g', t', cs', fuel', p', k1, k2, k3, k4, k5⟩ := laidVars_mem r q h5 n d hm
      exact ⟨g', t', cs', fuel', p', k1, k2, k3, k4, fun x hx => by simp [k5 x hx]⟩
theorem tab_blk {P : Program} {w : World} {laid : List (String × DataW Unit)} (h : laidMet P laid w) {name : String} {l : List (List UInt8)} (hm : (name, strData l) ∈ laid) {g : Nat} {t e : TypeId} {n : Nat}
    (hg : P.globalNamed name = some g) (hty : (P.globals[g]?).map (·.type) = some t) (ht : P.underlying t = some (.array n e)) (he : P.underlying e = some .string) (hce : P.cellsOf e = 1) (hct : P.cellsOf t = n) (hn : 0 < l.length) :
    ∃ t', Blk w g t' (l.map fun s => Value.string (mkS s)).toArray := by
  obtain ⟨ps, hv, _, hfz⟩ := h
  obtain ⟨g', t', cs, fuel, p, hg', hty', hvar, hd, hps⟩ := laidVars_mem laid ps hv name _ hm
  obtain rfl := Option.some.inj (hg.symm.trans hg')
  obtain rfl := Option.some.inj (hty.symm.trans hty')
  have hcs := cells_of_strs ht he hce hct hd
  have hsz : cs.size = l.length := by rw [← Array.length_toList, hcs, List.length_map]
  obtain ⟨⟨c, tc, hb⟩, _⟩ := hfz g 0 (hps _ (by unfold MemPlace.row; simp; omega))
  have hc : c = cs := by
    unfold World.var? at hvar
    rw [hg] at hvar
    simp [hb] at hvar
    exact hvar
  have he2 : cs = (l.map fun s => Value.string (mkS s)).toArray := by rw [← hcs]
  exact ⟨tc, by rw [← he2, ← hc]; exact hb⟩
def signL : List Wd := [[], [60], [61], [60, 61], [62], [60, 62], [62, 61], [60, 61, 62]]
def wordL : List Wd := [[], [], wAnd, wOr, wIf, wWith, wWithout, []]
theorem tabs_of {W : World} {laid : List (String × DataW Unit)} (h : laidMet Tryz.prog laid W) (h1 : ("chandler/dep.signs", Rows.laid_chandler_dep_signs) ∈ laid) (h2 : ("chandler/dep.words", Rows.laid_chandler_dep_words) ∈ laid) : Tabs W := by
  have e1 : (Rows.laid_chandler_dep_signs : DataW Unit) = strData signL := by kernel_rfl
  have e2 : (Rows.laid_chandler_dep_words : DataW Unit) = strData wordL := by kernel_rfl
  rw [e1] at h1
  rw [e2] at h2
  obtain ⟨t1, b1⟩ := tab_blk (g := 3) (t := 146) (e := 9) (n := 8) h h1 (by kernel_rfl) (by kernel_rfl) Tryz.underlying146 Tryz.underlying9 (by kernel_rfl) (by kernel_rfl) (by decide)
  obtain ⟨t2, b2⟩ := tab_blk (g := 2) (t := 146) (e := 9) (n := 8) h h2 (by kernel_rfl) (by kernel_rfl) Tryz.underlying146 Tryz.underlying9 (by kernel_rfl) (by kernel_rfl) (by decide)
  exact ⟨⟨t2, b2⟩, t1, b1⟩
end Go.Proofs.YtdhgiammfpjniaaGreatDoor.Ev

/- SuseNames, SuseJoins: the laws at what came in. -/
namespace Go.Proofs.YtdhgiammfpjniaaGreatDoor
set_option linter.unusedSimpArgs false
set_option linter.unusedVariables false
open Go.RowKit

theorem smax_of {W : World} (hS : W.ShapedOpen Tryz.prog) : MaxAt W := Go.Proofs.cell_of_shapedOpen_int (zero := #[.int .i64 0]) (t := 3) hS (of_decide_eq_true (by kernel_rfl)) (by kernel_rfl) rfl (by kernel_rfl) (by kernel_rfl) Tryz.underlying3
theorem suW_of {W : World} {laid : List (String × DataW Unit)} (hL : laidMet Tryz.prog laid W) (hd1 : ("chandler/dep.signs", Rows.laid_chandler_dep_signs) ∈ laid) (hd2 : ("chandler/dep.words", Rows.laid_chandler_dep_words) ∈ laid) (hS : W.ShapedOpen Tryz.prog) : SuW W :=
  ⟨Ev.tabs_of hL hd1 hd2, smax_of hS⟩
theorem actDep_ok : ActDepOk := fun _ _ _ _ _ _ _ _ _ _ _ _ v h hi hcb hv hn hT => act_dep h hi hcb v hv hn hT
theorem read_ok : ReadOk := fun w0 w1 g t ht hT hM h => suRead_any w0 w1 g t ht hT hM actDep_ok h
theorem suseNames_walk (W : World) (hL : laidMetH Tryz.prog Rows.suseNamesRow.laid W) (hSh : W.ShapedOpen Tryz.prog) : Calls Tryz.prog 6 #[] W (TrueBelow W) := by
  rw [MakeChecks.laidMetH_plain _ _ _ (by kernel_rfl)] at hL
  exact suseNames_any read_ok W (suW_of hL (by simp [Rows.suseNamesRow]) (by simp [Rows.suseNamesRow]) hSh)
theorem mk_ofS (s : ByteArray) : mkS s.data.toList = s := s_ext (by rw [mkS_list])
theorem small_strS {H : Type} {s : ByteArray} {d : DataW H} {ds : List (DataW H)} (hd : d = .lit (.string s.data.toList)) (hm : d ∈ ds) (hk : Rows.uptoBulkAll ds ≤ 1048576) : s.data.toList.length ≤ 1048576 := by
  have h1 : ∀ (l : List (DataW H)) x, x ∈ l → Rows.uptoBulk x ≤ Rows.uptoBulkAll l := by
    intro l
    induction l with
    | nil => intro x hx; cases hx
    | cons y l ih =>
      intro x hx
      rw [Rows.uptoBulkAll]
      rcases List.mem_cons.1 hx with rfl | hx
      · omega
      · have := ih x hx; omega
  have h2 := h1 ds d hm
  rw [hd, Rows.uptoBulk] at h2
  omega
theorem suseJoins_walk {H : Type} {enc : TypeId × Value → H} (W : World) {v0 v1 : Value} {d0 d1 : DataW H} (h0 : In enc Tryz.prog W 9 v0 d0) (h1 : In enc Tryz.prog W 9 v1 d1)
    (hL : laidMetH Tryz.prog Rows.suseJoinsUptoRow.laid W) (hk : Rows.uptoBulkAll ([d0, d1] ++ []) ≤ 1048576) (hSh : W.ShapedOpen Tryz.prog) :
    Calls Tryz.prog 9 #[v0, v1] W (TrueBelow W) := by
  obtain ⟨s0, rfl, e0, -⟩ := h0.string Tryz.underlying9
  obtain ⟨s1, rfl, e1, -⟩ := h1.string Tryz.underlying9
  have l0 := small_strS e0 (by simp) hk
  have l1 := small_strS e1 (by simp) hk
  rw [MakeChecks.laidMetH_plain _ _ _ (by kernel_rfl)] at hL
  have hE := suW_of hL (by simp [Rows.suseJoinsUptoRow]) (by simp [Rows.suseJoinsUptoRow]) hSh
  rw [← mk_ofS s0, ← mk_ofS s1]
  exact suJoins_any read_ok (suAwake_any read_ok) _ _ l0 l1 W hE
end Go.Proofs.YtdhgiammfpjniaaGreatDoor
