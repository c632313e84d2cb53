/- How a dependency lies in memory. -/
import Derived.Test.YtciogfpejenedaaGreatDoorDTheory
import Derived.Test.YtciogfpejenedaaGreatDoorUp
namespace Go.Proofs.YtciogfpejenedaaGreatDoor
set_option linter.unusedSimpArgs false
set_option linter.unusedVariables false
open Go.RowKit

/-- A dependency's five cells, s being where its arguments lie. -/
def rowD (d : Dep) (s : Value) : Array Value := #[.int .i64 d.kind, .string d.name, .int .i64 d.op, .string d.evr, s]
def CellsD (w : World) (b o : Nat) (d : Dep) (s : Value) : Prop :=
  w.cell? ⟨b, o, none⟩ = some (.int .i64 d.kind) ∧ w.cell? ⟨b, o + 1, none⟩ = some (.string d.name) ∧ w.cell? ⟨b, o + 2, none⟩ = some (.int .i64 d.op) ∧ w.cell? ⟨b, o + 3, none⟩ = some (.string d.evr) ∧ w.cell? ⟨b, o + 4, none⟩ = some s
mutual
/-- s is a slice of d's arguments, which lie in blocks of S, so all that is within them. -/
def Lay (w : World) (S : Nat → Prop) : Dep → Value → Prop
  | .mk _ _ _ _ ds, s => ∃ A c, s = .slice A ds.length c ∧ ds.length ≤ c ∧ (c ≤ maxLen ∧ (A = none → c = 0)) ∧ LayA w S ds A 0
def LayA (w : World) (S : Nat → Prop) : List Dep → Option Addr → Nat → Prop
  | [], _, _ => True
  | a :: r, A, i => (∃ b o s, A = some ⟨b, o, none⟩ ∧ S b ∧ CellsD w b (o + i * 5) a s ∧ Lay w S a s) ∧ LayA w S r A (i + 1)
end
/-- S's blocks are lists of dependencies, none of them marked. -/
def CleanS (w : World) (S : Nat → Prop) : Prop := ∀ b, S b → ∃ cs, Blk w b 47 cs
/-- What stands in S stays. -/
def StayS (S : Nat → Prop) (w w' : World) : Prop := ∀ b, S b → b < w.heap.size → w'.heap[b]? = w.heap[b]?

theorem CellsD.stay {w w' : World} {b o : Nat} {d : Dep} {s : Value} (h : CellsD w b o d s) (e : w'.heap[b]? = w.heap[b]?) : CellsD w' b o d s := by
  have k : ∀ i, w'.cell? ⟨b, i, none⟩ = w.cell? ⟨b, i, none⟩ := fun i => World.cell?_of_block e
  unfold CellsD at h ⊢
  rw [k, k, k, k, k]
  exact h
theorem CellsD.lt {w : World} {b o : Nat} {d : Dep} {s : Value} (h : CellsD w b o d s) : b < w.heap.size := cell_lt h.1
theorem layA_iff {w : World} {S : Nat → Prop} {ds : List Dep} {A : Option Addr} {i : Nat} : LayA w S ds A i ↔ ∀ j a, ds[j]? = some a → ∃ b o s, A = some ⟨b, o, none⟩ ∧ S b ∧ CellsD w b (o + (i + j) * 5) a s ∧ Lay w S a s := by
  induction ds generalizing i with
  | nil => simp [LayA]
  | cons a r ih =>
    simp only [LayA, ih]
    constructor
    · rintro ⟨h0, h⟩ j x hx
      cases j with
      | zero => simp at hx; subst hx; exact h0
      | succ j =>
        have := h j x (by simpa using hx)
        rwa [show i + 1 + j = i + (j + 1) by omega] at this
    · intro h
      refine ⟨by simpa using h 0 a rfl, fun j x hx => ?_⟩
      have := h (j + 1) x (by simpa using hx)
      rwa [show i + (j + 1) = i + 1 + j by omega] at this
theorem lay_iff {w : World} {S : Nat → Prop} {d : Dep} {s : Value} : Lay w S d s ↔ ∃ A c, s = .slice A d.args.length c ∧ d.args.length ≤ c ∧ (c ≤ maxLen ∧ (A = none → c = 0)) ∧ ∀ j a, d.args[j]? = some a → ∃ b o t, A = some ⟨b, o, none⟩ ∧ S b ∧ CellsD w b (o + j * 5) a t ∧ Lay w S a t := by
  obtain ⟨k, n, o, e, ds⟩ := d
  simp only [Lay, layA_iff, Dep.args, Nat.zero_add]
theorem Lay.stay {w w' : World} {S S' : Nat → Prop} (hS : ∀ b, S b → S' b) (hw : StayS S w w') (d : Dep) : ∀ s, Lay w S d s → Lay w' S' d s := by
  induction d using Dep.ind with
  | h k n o e ds ih =>
    intro s h
    rw [lay_iff] at h ⊢
    obtain ⟨A, c, h1, h2, h3, h4⟩ := h
    refine ⟨A, c, h1, h2, h3, fun j a ha => ?_⟩
    obtain ⟨b, p, t, e1, e2, e3, e4⟩ := h4 j a ha
    exact ⟨b, p, t, e1, hS b e2, e3.stay (hw b e2 e3.lt), ih a (List.mem_of_getElem? ha) t e4⟩
theorem CleanS.stay {w w' : World} {S : Nat → Prop} (h : CleanS w S) (hw : StayS S w w') : CleanS w' S := fun b hb => by
  obtain ⟨cs, hc⟩ := h b hb
  exact ⟨cs, (hw b hb hc.lt).trans hc⟩
theorem StayS.refl (S : Nat → Prop) (w : World) : StayS S w w := fun _ _ _ => rfl
theorem StayS.turned {S : Nat → Prop} {w w' : World} {F : List Nat} (ht : Turned F w w') (h : ∀ b, S b → b ∉ F) : StayS S w w' := fun b hb hl => ht.block b hl (h b hb)
theorem StayS.below {S : Nat → Prop} {w w' : World} {B : Nat} (hb : Below B w w') (h : ∀ b, S b → b < B) : StayS S w w' := fun b hs _ => hb.block b (h b hs)
theorem StayS.below' {S : Nat → Prop} {w w' : World} (hb : Below w.heap.size w w') : StayS S w w' := fun b _ hl => hb.block b hl
theorem StayS.trans {S : Nat → Prop} {w w' w'' : World} (h : StayS S w w') (k : StayS S w' w'') (hz : w.heap.size ≤ w'.heap.size) : StayS S w w'' := fun b hb hl => (k b hb (by omega)).trans (h b hb hl)
theorem Lay.form_ {w : World} {S : Nat → Prop} {d : Dep} {s : Value} (h : Lay w S d s) : ∃ A c, s = .slice A d.args.length c ∧ d.args.length ≤ c ∧ c ≤ maxLen := by
  rw [lay_iff] at h
  obtain ⟨A, c, h1, h2, h3, _⟩ := h
  exact ⟨A, c, h1, h2, h3.1⟩
theorem Lay.nil_ {w : World} {S : Nat → Prop} {d : Dep} {n c : Nat} (h : Lay w S d (.slice none n c)) : c = 0 ∧ n = 0 ∧ d.args = [] := by
  rw [lay_iff] at h
  obtain ⟨A, c', h1, h2, h3, _⟩ := h
  injection h1 with e1 e2 e3
  have := h3.2 e1.symm
  subst e3
  have h0 : d.args.length = 0 := by omega
  exact ⟨this, by omega, List.eq_nil_of_length_eq_zero h0⟩
/-- The arguments, one by one. -/
def ArgsAt (w : World) (S : Nat → Prop) (ds : List Dep) (A : Option Addr) : Prop := ∀ j a, ds[j]? = some a → ∃ b o t, A = some ⟨b, o, none⟩ ∧ S b ∧ CellsD w b (o + j * 5) a t ∧ Lay w S a t
theorem Lay.args_ {w : World} {S : Nat → Prop} {d : Dep} {s : Value} (h : Lay w S d s) : ∃ A c, s = .slice A d.args.length c ∧ d.args.length ≤ c ∧ c ≤ maxLen ∧ ArgsAt w S d.args A := by
  obtain ⟨A, c, h1, h2, h3, h4⟩ := lay_iff.1 h
  exact ⟨A, c, h1, h2, h3.1, h4⟩
theorem ArgsAt.stay {w w' : World} {S S' : Nat → Prop} {ds : List Dep} {A : Option Addr} (h : ArgsAt w S ds A) (hS : ∀ b, S b → S' b) (hw : StayS S w w') : ArgsAt w' S' ds A := fun j a ha => by
  obtain ⟨b, p, t, e1, e2, e3, e4⟩ := h j a ha
  exact ⟨b, p, t, e1, hS b e2, e3.stay (hw b e2 e3.lt), e4.stay hS hw⟩
theorem Lay.none_ (w : World) (S : Nat → Prop) (k : Int) (n : ByteArray) (o : Int) (e : ByteArray) : Lay w S (.mk k n o e []) (.slice none 0 0) := by
  rw [lay_iff]
  exact ⟨none, 0, rfl, Nat.le_refl _, ⟨by simp [maxLen], fun _ => rfl⟩, fun j a ha => by simp [Dep.args] at ha⟩

/-! Sizes. -/
mutual
/-- No text is too long. -/
def small : Dep → Prop
  | .mk _ n _ e ds => n.size ≤ 2147483648 ∧ e.size ≤ 2147483648 ∧ smalls ds
def smalls : List Dep → Prop
  | [] => True
  | a :: r => small a ∧ smalls r
end
theorem smalls_mem {ds : List Dep} (h : smalls ds) : ∀ a ∈ ds, small a := by
  induction ds with
  | nil => intro a ha; cases ha
  | cons b r ih =>
    simp only [smalls] at h
    intro a ha
    rcases List.mem_cons.1 ha with rfl | ha
    · exact h.1
    · exact ih h.2 a ha
theorem small_parts {d : Dep} (h : small d) : d.name.size ≤ 2147483648 ∧ d.evr.size ≤ 2147483648 ∧ ∀ a ∈ d.args, small a := by
  obtain ⟨k, n, o, e, ds⟩ := d
  simp only [small] at h
  exact ⟨h.1, h.2.1, smalls_mem h.2.2⟩
theorem nodes_parts (d : Dep) : nodes d = 1 + nodesA d.args := by cases d; rfl
theorem nodesA_mem {ds : List Dep} {a : Dep} (h : a ∈ ds) : nodes a ≤ nodesA ds := by
  induction ds with
  | nil => cases h
  | cons b r ih =>
    simp only [nodesA]
    rcases List.mem_cons.1 h with rfl | h
    · omega
    · have := ih h; omega
end Go.Proofs.YtciogfpejenedaaGreatDoor
