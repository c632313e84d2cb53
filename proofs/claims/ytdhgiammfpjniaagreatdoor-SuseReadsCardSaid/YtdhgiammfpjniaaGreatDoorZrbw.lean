/- Parts of the proof. -/
import Derived.Test.YtdhgiammfpjniaaGreatDoorZrah
import Derived.Test.YtdhgiammfpjniaaGreatDoorRows
import Derived.Stop.LaidErr
import Derived.MakeChecks
import Derived.OpenShut
import Derived.Test.YtdhgiammfpjniaaGreatDoorZrbt
import Derived.Test.YtdhgiammfpjniaaGreatDoorZrbv
import Derived.Test.YtdhgiammfpjniaaGreatDoorZrbl
import Derived.Test.YtdhgiammfpjniaaGreatDoorZraa
import Derived.Shelf.Vars
import Derived.LaidLaws
namespace Go.Proofs.YtdhgiammfpjniaaGreatDoor.Ev
set_option linter.unusedSimpArgs false
set_option linter.unusedVariables false
open Go.RowKit
def agQ0 {H : Type} (l : List (List UInt8)) : DataW H := .agg (l.map fun s => .lit (.string s))
theorem ajQv {H : Type} {enc : TypeId × Value → H} {P : Program} {w : World} {base : Nat} {sp : Nat → Bool} {held : Bool} {fuel : Nat} {t e : TypeId} {n : Nat} {cs : List Value} {l : List (List UInt8)} {p : List MemPlace}
 (ht : P.underlying t = some (.array n e)) (he : P.underlying e = some .string) (hce : P.cellsOf e = 1) (hct : P.cellsOf t = n)
 (h : DataW.trod enc P w base sp held fuel t cs = some (agQ0 l, p)) : cs = l.map fun s => Value.string (mkS s) := by
 obtain ⟨xs, m, _, hx, hl, hxl, hi⟩ := DataW.trod_array ht h
 have hxs : (l.map fun s => (DataW.lit (.string s) : DataW H)) = xs.map (·.1) := by
  have := congrArg Prod.fst hx
  simpa [agQ0] using this
 have hll : l.length = n := by
  have := congrArg List.length hxs
  simp at this
  omega
 rw [hct] at hl
 apply List.ext_getElem?
 intro i
 by_cases hlt : i < n
 ·have hxi : xs[i]? = some (xs[i]'(by omega)) := List.getElem?_eq_getElem (by omega)
  have h1 := hi i hlt
  rw [hce, Nat.mul_one, hxi] at h1
  obtain ⟨s, hc, hxe, _⟩ := DataW.trod_string he h1
  have h2 : cs[i]? = some (.string s) := by
   have := congrArg (·[0]?) hc
   simpa [List.getElem?_take, List.getElem?_drop] using this
  have h3 : (xs.map (·.1))[i]? = some (DataW.lit (.string s.data.toList) : DataW H) := by rw [List.getElem?_map, hxi, hxe]; rfl
  rw [← hxs, List.getElem?_map, List.getElem?_eq_getElem (by omega)] at h3
  simp only [Option.map_some, Option.some.injEq, DataW.lit.injEq, Lit.string.injEq] at h3
  rw [h2, List.getElem?_map, List.getElem?_eq_getElem (by omega)]
  simp only [Option.map_some, Option.some.injEq, Value.string.injEq]
  rw [h3]
  rfl
 ·rw [List.getElem?_eq_none (by omega), List.getElem?_eq_none (by simp; omega)]
theorem agQa {P : Program} {w : World} : ∀ (laid : List (String × DataW Unit)) (ps : List MemPlace), DataW.LaidVars P w laid ps → ∀ n d, (n, d) ∈ laid →
 ∃ g t cs fuel p, P.globalNamed n = some g ∧ (P.globals[g]?).map (·.type) = some t ∧ w.var? P n = some cs ∧ DataW.trod (fun _ => ()) P w 0 (fun _ => true) false fuel t cs.toList = some (d, p) ∧ ∀ x ∈ MemPlace.row ⟨g, 0, none⟩ cs.size, x ∈ ps
 | [], ps, h, n, d, hm => by cases hm
 | (n0, d0) :: r, ps, h, n, d, hm => by
   obtain ⟨g, t, cs, fuel, p, q, h1, h2, h3, h4, h5, rfl⟩ := h
   rcases List.mem_cons.1 hm with he | hm
   ·injection he with e1 e2
    subst e1
    subst e2
    exact ⟨g, t, cs, fuel, p, h1, h2, h3, h4, fun x hx => by simp [hx]⟩
   ·obtain ⟨g', t', cs', fuel', p', k1, k2, k3, k4, k5⟩ := agQa r q h5 n d hm
    exact ⟨g', t', cs', fuel', p', k1, k2, k3, k4, fun x hx => by simp [k5 x hx]⟩
theorem apQ8 {P : Program} {w : World} {laid : List (String × DataW Unit)} (h : laidMet P laid w) {name : String} {l : List (List UInt8)} (hm : (name, agQ0 l) ∈ laid) {g : Nat} {t e : TypeId} {n : Nat}
 (hg : P.globalNamed name = some g) (hty : (P.globals[g]?).map (·.type) = some t) (ht : P.underlying t = some (.array n e)) (he : P.underlying e = some .string) (hce : P.cellsOf e = 1) (hct : P.cellsOf t = n) (hn : 0 < l.length) :
 ∃ t', Blk w g t' (l.map fun s => Value.string (mkS s)).toArray := by
 obtain ⟨ps, hv, _, hfz⟩ := h
 obtain ⟨g', t', cs, fuel, p, hg', hty', hvar, hd, hps⟩ := agQa laid ps hv name _ hm
 obtain rfl := Option.some.inj (hg.symm.trans hg')
 obtain rfl := Option.some.inj (hty.symm.trans hty')
 have hcs := ajQv ht he hce hct hd
 have hsz : cs.size = l.length := by rw [← Array.length_toList, hcs, List.length_map]
 obtain ⟨⟨c, tc, hb⟩, _⟩ := hfz g 0 (hps _ (by unfold MemPlace.row; simp; omega))
 have hc : c = cs := by
  unfold World.var? at hvar
  rw [hg] at hvar
  simp [hb] at hvar
  exact hvar
 have he2 : cs = (l.map fun s => Value.string (mkS s)).toArray := by rw [← hcs]
 exact ⟨tc, by rw [← he2, ← hc]; exact hb⟩
def signL : List Wd := [[], [60], [61], [60, 61], [62], [60, 62], [62, 61], [60, 61, 62]]
def wordL : List Wd := [[], [], wAnd, wOr, wIf, wWith, aaQ1, []]
theorem tabs_of {W : World} {laid : List (String × DataW Unit)} (h : laidMet Tryz.prog laid W) (h1 : ("chandler/dep.signs", Rows.laid_chandler_dep_signs) ∈ laid) (h2 : ("chandler/dep.words", Rows.laid_chandler_dep_words) ∈ laid) : Tabs W := by
 have e1 : (Rows.laid_chandler_dep_signs : DataW Unit) = agQ0 signL := by kernel_rfl
 have e2 : (Rows.laid_chandler_dep_words : DataW Unit) = agQ0 wordL := by kernel_rfl
 rw [e1] at h1
 rw [e2] at h2
 obtain ⟨t1, b1⟩ := apQ8 (g := 3) (t := 146) (e := 9) (n := 8) h h1 (by kernel_rfl) (by kernel_rfl) Tryz.underlying146 Tryz.underlying9 (by kernel_rfl) (by kernel_rfl) (by decide)
 obtain ⟨t2, b2⟩ := apQ8 (g := 2) (t := 146) (e := 9) (n := 8) h h2 (by kernel_rfl) (by kernel_rfl) Tryz.underlying146 Tryz.underlying9 (by kernel_rfl) (by kernel_rfl) (by decide)
 exact ⟨⟨t2, b2⟩, t1, b1⟩
end Go.Proofs.YtdhgiammfpjniaaGreatDoor.Ev

namespace Go.Proofs.YtdhgiammfpjniaaGreatDoor
set_option linter.unusedSimpArgs false
set_option linter.unusedVariables false
open Go.RowKit
theorem smax_of {W : World} (hS : W.ShapedOpen Tryz.prog) : MaxAt W := Go.Proofs.cell_of_shapedOpen_int (zero := #[.int .i64 0]) (t := 3) hS (of_decide_eq_true (by kernel_rfl)) (by kernel_rfl) rfl (by kernel_rfl) (by kernel_rfl) Tryz.underlying3
theorem suW_of {W : World} {laid : List (String × DataW Unit)} (hL : laidMet Tryz.prog laid W) (hd1 : ("chandler/dep.signs", Rows.laid_chandler_dep_signs) ∈ laid) (hd2 : ("chandler/dep.words", Rows.laid_chandler_dep_words) ∈ laid) (hS : W.ShapedOpen Tryz.prog) : SuW W :=
 ⟨Ev.tabs_of hL hd1 hd2, smax_of hS⟩
theorem arQ4 : afQk := fun _ _ _ _ _ _ _ _ _ _ _ _ v h hi hcb hv hn hT => act_dep h hi hcb v hv hn hT
theorem aqQl : anQ9 := fun w0 w1 g t ht hT hM h => aoQi w0 w1 g t ht hT hM arQ4 h
theorem mk_ofS (s : ByteArray) : mkS s.data.toList = s := s_ext (by rw [aaQn])
theorem suseReads_walk {H : Type} {enc : TypeId × Value → H} (W : World) {v0 : Value} {d0 : DataW H} (h0 : In enc Tryz.prog W 9 v0 d0)
 (hL : laidMetH Tryz.prog Rows.suseReadsRow.laid W) (hsz : (DataW.weightsEach Tryz.prog [9] [d0]).all (· ≤ reachBytes) = true) (hSh : W.ShapedOpen Tryz.prog) :
 Calls Tryz.prog 7 #[v0] W (arQ6 W) := by
 obtain ⟨s0, rfl, e0, -⟩ := h0.string Tryz.underlying9
 rw [MakeChecks.laidMetH_plain _ _ _ (by kernel_rfl)] at hL
 have hE := suW_of hL (by simp [Rows.suseReadsRow]) (by simp [Rows.suseReadsRow]) hSh
 rw [← mk_ofS s0]
 exact alQ4 aqQl (alQ5 aqQl) _ W hE
end Go.Proofs.YtdhgiammfpjniaaGreatDoor
