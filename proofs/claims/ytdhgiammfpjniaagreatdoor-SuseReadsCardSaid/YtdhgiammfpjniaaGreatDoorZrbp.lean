/- Parts of the proof. -/
import Derived.Test.YtdhgiammfpjniaaGreatDoorZrbo
import Derived.Test.YtdhgiammfpjniaaGreatDoorZrbk
namespace Go.Proofs.YtdhgiammfpjniaaGreatDoor
set_option linter.unusedSimpArgs false
set_option linter.unusedVariables false
open Go.RowKit Go.MapKept
theorem acQj {w : World} {p q : Addr} (h : p.block ≠ q.block) (u v : Value) : (w.setCell p u).setCell q v = (w.setCell q v).setCell p u := by
 unfold World.setCell
 simp only [World.mk.injEq, true_and, and_true]
 apply Array.ext_getElem?
 intro k
 simp only [Array.getElem?_modify]
 by_cases h1 : p.block = k
 ·by_cases h2 : q.block = k
  ·exact absurd (h1.trans h2.symm) h
  ·simp [h1, h2]
 ·by_cases h2 : q.block = k
  ·simp [h1, h2]
  ·simp [h1, h2]
theorem set5 {l : List Value} {n : Nat} (hn : l.length = n) (a b c d e A B C D E : Value) : (((((l ++ [a, b, c, d, e]).set n A).set (n + 1) B).set (n + 2) C).set (n + 3) D).set (n + 4) E = l ++ [A, B, C, D, E] := by
 subst hn
 rw [List.set_append_right _ _ (by omega), List.set_append_right _ _ (by omega), List.set_append_right _ _ (by omega), List.set_append_right _ _ (by omega), List.set_append_right _ _ (by omega), Nat.sub_self, Nat.add_sub_cancel_left, Nat.add_sub_cancel_left, Nat.add_sub_cancel_left, Nat.add_sub_cancel_left]
 rfl
section
variable {w0 w w4 : World} {B g b1 : Nat} {ys xs : List Sk5} {x : Sk5} {has : Bool} {v : Value}
theorem RfM.depsA (h : RfM w0 w B g b1 v ys x has) {i : Nat} (hi : i < 7) {d : Ev.Dep} {t : Value} {G : List Nat} (hd : Ev.Lay w (fun b => b ∈ G) d t) (hG : ∀ b ∈ G, b1 ≤ b ∧ (∃ cs, Blk w b 39 cs) ∧ (∀ j, j < 7 → (x.ss j).ownBlock ≠ some b)) {gg c' : Nat} (hown : w4.ownsRow b1 39 5 (.slice (some ⟨gg, 0, none⟩) ((x.rs i).length + 1) c') ((x.rs i).length + 1) (Ev.cells5 (x.rs i) ++ [.int .i64 0, .string ⟨#[]⟩, .int .i64 0, .string ⟨#[]⟩, .slice none 0 0])) (hg : w.grownBy w4 (x.ss i).ownBlock) (hat : some gg = (x.ss i).ownBlock ∨ some gg = some w.heap.size) :
 RfM w0 ((((((w4.setCell ⟨gg, (x.rs i).length * 5, none⟩ (.int .i64 d.kind)).setCell ⟨gg, (x.rs i).length * 5 + 1, none⟩ (.string d.name)).setCell ⟨gg, (x.rs i).length * 5 + 2, none⟩ (.int .i64 d.op)).setCell ⟨gg, (x.rs i).length * 5 + 3, none⟩ (.string d.evr)).setCell ⟨gg, (x.rs i).length * 5 + 4, none⟩ t).setCell ⟨g, (4 + i) + 1, none⟩ (.slice (some ⟨gg, 0, none⟩) ((x.rs i).length + 1) c')) B g b1 v ys ⟨⟨x.S.T, updF x.S.D i (x.S.D i ++ [d]), x.S.fl⟩, updF x.ss i (.slice (some ⟨gg, 0, none⟩) ((x.rs i).length + 1) c'), updF x.rs i (x.rs i ++ [(d, t)]), G ++ x.F, x.fs⟩ has := by
 refine h.deps hi hd hG ?_ ?_ hat
 ·have := afQv (afQv (afQv (afQv (afQv hown (k := (x.rs i).length * 5) (by omega) (.int .i64 d.kind)) (k := (x.rs i).length * 5 + 1) (by omega) (.string d.name)) (k := (x.rs i).length * 5 + 2) (by omega) (.int .i64 d.op)) (k := (x.rs i).length * 5 + 3) (by omega) (.string d.evr)) (k := (x.rs i).length * 5 + 4) (by omega) t
  rw [set5 (Ev.cells5_len _)] at this
  exact this
 ·have hp : gg ∈ (x.ss i).ownBlock.toList ∨ w.heap.size ≤ gg := by
   rcases hat with e | e
   ·exact .inl (by rw [← e]; simp)
   ·injection e with e
    exact .inr (by omega)
  exact (((((((aaQi hg).setCell (p := ⟨gg, _, none⟩) hp _).setCell (p := ⟨gg, _, none⟩) hp _).setCell (p := ⟨gg, _, none⟩) hp _).setCell (p := ⟨gg, _, none⟩) hp _).setCell (p := ⟨gg, _, none⟩) hp _)).grownBy (fun k hk => (by simpa using hk : (x.ss i).ownBlock = some k).symm)
theorem acQi {gg n m : Nat} (hne : g ≠ gg) (A B' C D E u : Value) : ((((((w4.setCell ⟨g, m, none⟩ u).setCell ⟨gg, n, none⟩ A).setCell ⟨gg, n + 1, none⟩ B').setCell ⟨gg, n + 2, none⟩ C).setCell ⟨gg, n + 3, none⟩ D).setCell ⟨gg, n + 4, none⟩ E) = ((((((w4.setCell ⟨gg, n, none⟩ A).setCell ⟨gg, n + 1, none⟩ B').setCell ⟨gg, n + 2, none⟩ C).setCell ⟨gg, n + 3, none⟩ D).setCell ⟨gg, n + 4, none⟩ E).setCell ⟨g, m, none⟩ u) := by
 rw [acQj (p := ⟨g, m, none⟩) (q := ⟨gg, n, none⟩) hne, acQj (p := ⟨g, m, none⟩) (q := ⟨gg, n + 1, none⟩) hne, acQj (p := ⟨g, m, none⟩) (q := ⟨gg, n + 2, none⟩) hne, acQj (p := ⟨g, m, none⟩) (q := ⟨gg, n + 3, none⟩) hne, acQj (p := ⟨g, m, none⟩) (q := ⟨gg, n + 4, none⟩) hne]
end
end Go.Proofs.YtdhgiammfpjniaaGreatDoor
