/- DepPrints: its walk, as the card's step asks it. -/
import Derived.Test.YtghbhajiddnmkaaGreatDoorDPrintsL
import Derived.Test.YtghbhajiddnmkaaGreatDoorDArg
namespace Go.Proofs.YtghbhajiddnmkaaGreatDoor
set_option linter.unusedSimpArgs false
set_option linter.unusedVariables false
open Go.RowKit Go.WideShapes

set_option maxRecDepth 100000 in
theorem In.dep {H : Type} {enc : TypeId × Value → H} {W : World} {v : Value} {di : DataW H} (h : In enc Tryz.prog W 24 v di) :
    ∃ (D : Dep) (s : Value), v = .agg (rowD D s) ∧ Lay W (fun b => b < W.heap.size) D s ∧ nodes D ≤ Rows.uptoBulk di ∧ (Rows.uptoBulk di ≤ 2147483648 → small D) := by
  obtain ⟨⟨b, hv⟩, ps, fuel, hf⟩ := h
  obtain ⟨cs, rfl, hs⟩ := okWide_struct Tryz.underlying24 hv
  obtain ⟨D, s, e, h1, h2, h3⟩ := dep_trod _ fuel cs.toList di ps (Nat.le_refl _) hf
  refine ⟨D, s, ?_, h1, h2, h3⟩
  obtain ⟨l⟩ := cs
  have e' : l = _ := e
  subst e'
  rfl
theorem depPrints_walk {H : Type} {enc : TypeId × Value → H} (W : World) {v0 : Value} {d0 : DataW H} (h0 : In enc Tryz.prog W 24 v0 d0) (hL : laidMetH Tryz.prog Rows.depPrintsUptoRow.laid W) (hk : Rows.uptoBulkAll [d0] ≤ 1048576) :
    Calls Tryz.prog 3 #[v0] W (TrueBelow W) := by
  obtain ⟨D, s, rfl, hLay, hN, hsm⟩ := In.dep h0
  have hb : Rows.uptoBulk d0 ≤ 1048576 := by
    simp only [Rows.uptoBulkAll] at hk
    omega
  rw [MakeChecks.laidMetH_plain _ _ _ (by kernel_rfl)] at hL
  exact depPrints_any D s _ W hLay (tabs_of hL (by simp [Rows.depPrintsUptoRow]) (by simp [Rows.depPrintsUptoRow])) (hsm (by omega)) (by omega)
end Go.Proofs.YtghbhajiddnmkaaGreatDoor
