/- Labels in a scope; a row of bytes that a call appends to while it takes from a reader. -/
import Derived.Test.YtoifibnmincodaaGreatDoorXe
import Derived.ScopeJumps
import Derived.Lib.FrozenHead
import Derived.Lib.SlBytesRow
namespace Go.Proofs.YtoifibnmincodaaGreatDoor
set_option linter.unusedSimpArgs false
set_option linter.unusedVariables false
open Go

def jumpM (R : Nat → Act → World → Prop) (Q : Exit → Act → World → Prop) : Exit → Act → World → Prop
  | .goto l, a, w => R l a w
  | e, a, w => Q e a w
/-- A scope with labels: what holds at each of them, and a number that falls. -/
theorem wp_scope_many {P : Program} {a : Act} {w : World} {Q : Exit → Act → World → Prop} {c : Code} (rest : Nat → Code) (J : Nat → Nat → Act → World → Prop)
    (hf : ∀ l n a w, J l n a w → findLabel c l = some (rest l))
    (pass : ∀ l n a w, J l n a w → (rest l).wp P (jumpM (fun l' a' w' => ∃ m, m < n ∧ J l' m a' w') Q) a w)
    (first : c.wp P (jumpM (fun l' a' w' => ∃ m, J l' m a' w') Q) a w) : (Code.scope c).wp P Q a w := by
  intro b k cs
  have hg : ∀ l, findLabel c l = some (rest l) → gotoIn l (.inScope c :: k) = some (.code (rest l) :: .inScope c :: k) := fun l h => by simp [gotoIn, h]
  have key : ∀ n l a w, J l n a w → ∃ e a' w', Q e a' w' ∧ Arrives P (lone (b.at a (.code (rest l) :: .inScope c :: k)) cs w) b k cs e a' w' := by
    intro n
    induction n using Nat.strongRecOn with
    | _ n ih =>
      intro l a w hJ
      obtain ⟨e, a₁, w₁, hq, harr⟩ := pass l n a w hJ b (.inScope c :: k) cs
      cases e with
      | normal => exact ⟨.normal, a₁, w₁, hq, Steps.trans harr (.one step_inScope)⟩
      | exit id => exact ⟨.exit id, a₁, w₁, hq, fun k' hk => harr k' (by simp [exitTo, hk])⟩
      | goto l' =>
        obtain ⟨m, hm, hJ'⟩ := hq
        obtain ⟨e₂, a₂, w₂, hq₂, harr₂⟩ := ih m hm l' a₁ w₁ hJ'
        exact ⟨e₂, a₂, w₂, hq₂, .of_steps (harr _ (hg l' (hf _ _ _ _ hJ'))) harr₂⟩
      | ret => exact ⟨_, a₁, w₁, hq, harr⟩
      | panic ch => exact ⟨_, a₁, w₁, hq, harr⟩
      | outgrown => exact ⟨_, a₁, w₁, hq, harr⟩
  obtain ⟨e, a₁, w₁, hq, harr⟩ := first b (.inScope c :: k) cs
  cases e with
  | normal => exact ⟨.normal, a₁, w₁, hq, .head step_scope (Steps.trans harr (.one step_inScope))⟩
  | exit id => exact ⟨.exit id, a₁, w₁, hq, fun k' hk => .head step_scope (harr k' (by simp [exitTo, hk]))⟩
  | goto l' =>
    obtain ⟨m, hJ'⟩ := hq
    obtain ⟨e₂, a₂, w₂, hq₂, harr₂⟩ := key m l' a₁ w₁ hJ'
    exact ⟨e₂, a₂, w₂, hq₂, .of_steps (.head step_scope (harr _ (hg l' (hf _ _ _ _ hJ')))) harr₂⟩
  | ret => exact ⟨_, a₁, w₁, hq, .of_steps (.one step_scope) harr⟩
  | panic ch => exact ⟨_, a₁, w₁, hq, .of_steps (.one step_scope) harr⟩
  | outgrown => exact ⟨_, a₁, w₁, hq, .of_steps (.one step_scope) harr⟩
/-- .. with two labels. -/
theorem wp_scope_2 {P : Program} {a : Act} {w : World} {Q : Exit → Act → World → Prop} {c r0 r1 : Code} (J : Nat → Nat → Act → World → Prop) (h0 : findLabel c 0 = some (Code.skip.seq r0)) (h1 : findLabel c 1 = some (Code.skip.seq r1))
    (hJ : ∀ l n a w, J l n a w → l < 2)
    (p0 : ∀ n a w, J 0 n a w → r0.wp P (jumpM (fun l' a' w' => ∃ m, m < n ∧ J l' m a' w') Q) a w)
    (p1 : ∀ n a w, J 1 n a w → r1.wp P (jumpM (fun l' a' w' => ∃ m, m < n ∧ J l' m a' w') Q) a w)
    (first : (∀ n a w, J 0 n a w → r0.wp P (jumpM (fun l' a' w' => ∃ m, J l' m a' w') Q) a w) → c.wp P (jumpM (fun l' a' w' => ∃ m, J l' m a' w') Q) a w) : (Code.scope c).wp P Q a w := by
  refine wp_scope_many (fun l => match l with | 0 => Code.skip.seq r0 | _ => Code.skip.seq r1) J (fun l n a w h => ?_) (fun l n a w h => ?_) (first fun n a w h => ?_)
  · have := hJ _ _ _ _ h
    match l, this with
    | 0, _ => exact h0
    | 1, _ => exact h1
  · have := hJ _ _ _ _ h
    match l, this with
    | 0, _ => exact wp_seq (wp_skip (p0 n a w h))
    | 1, _ => exact wp_seq (wp_skip (p1 n a w h))
  · refine Code.wp_mono (fun e a' w' he => ?_) (p0 n a w h)
    cases e <;> first | exact he | (obtain ⟨m, _, h⟩ := he; exact ⟨m, h⟩)
/-- .. with five. -/
theorem wp_scope_5 {P : Program} {a : Act} {w : World} {Q : Exit → Act → World → Prop} {c r0 r1 r2 r3 r4 : Code} (J : Nat → Nat → Act → World → Prop) (h0 : findLabel c 0 = some (Code.skip.seq r0)) (h1 : findLabel c 1 = some (Code.skip.seq r1)) (h2 : findLabel c 2 = some (Code.skip.seq r2)) (h3 : findLabel c 3 = some (Code.skip.seq r3)) (h4 : findLabel c 4 = some (Code.skip.seq r4))
    (hJ : ∀ l n a w, J l n a w → l < 5)
    (p0 : ∀ n a w, J 0 n a w → r0.wp P (jumpM (fun l' a' w' => ∃ m, m < n ∧ J l' m a' w') Q) a w)
    (p1 : ∀ n a w, J 1 n a w → r1.wp P (jumpM (fun l' a' w' => ∃ m, m < n ∧ J l' m a' w') Q) a w)
    (p2 : ∀ n a w, J 2 n a w → r2.wp P (jumpM (fun l' a' w' => ∃ m, m < n ∧ J l' m a' w') Q) a w)
    (p3 : ∀ n a w, J 3 n a w → r3.wp P (jumpM (fun l' a' w' => ∃ m, m < n ∧ J l' m a' w') Q) a w)
    (p4 : ∀ n a w, J 4 n a w → r4.wp P (jumpM (fun l' a' w' => ∃ m, m < n ∧ J l' m a' w') Q) a w)
    (first : (∀ n a w, J 0 n a w → r0.wp P (jumpM (fun l' a' w' => ∃ m, J l' m a' w') Q) a w) → c.wp P (jumpM (fun l' a' w' => ∃ m, J l' m a' w') Q) a w) : (Code.scope c).wp P Q a w := by
  refine wp_scope_many (fun l => match l with | 0 => Code.skip.seq r0 | 1 => Code.skip.seq r1 | 2 => Code.skip.seq r2 | 3 => Code.skip.seq r3 | _ => Code.skip.seq r4) J (fun l n a w h => ?_) (fun l n a w h => ?_) (first fun n a w h => ?_)
  · have := hJ _ _ _ _ h
    match l, this with
    | 0, _ => exact h0
    | 1, _ => exact h1
    | 2, _ => exact h2
    | 3, _ => exact h3
    | 4, _ => exact h4
  · have := hJ _ _ _ _ h
    match l, this with
    | 0, _ => exact wp_seq (wp_skip (p0 n a w h))
    | 1, _ => exact wp_seq (wp_skip (p1 n a w h))
    | 2, _ => exact wp_seq (wp_skip (p2 n a w h))
    | 3, _ => exact wp_seq (wp_skip (p3 n a w h))
    | 4, _ => exact wp_seq (wp_skip (p4 n a w h))
  · refine Code.wp_mono (fun e a' w' he => ?_) (p0 n a w h)
    cases e <;> first | exact he | (obtain ⟨m, _, h⟩ := he; exact ⟨m, h⟩)

/-! A row of bytes that is appended to. -/
open Go.RowKit
def u8L (l : Bs) : List Value := l.map fun b => Value.int .u8 b.toNat
theorem u8L_app (a b : Bs) : u8L (a ++ b) = u8L a ++ u8L b := List.map_append
theorem ownF_turned {w w' : World} {F : List Nat} {base size n : Nat} {e : TypeId} {v : Value} {xs : List Value} (h : w.ownsRowF base e size v n xs) (ht : Turned F w w') (hn : ∀ k, v.ownBlock = some k → k ∉ F) : w'.ownsRowF base e size v n xs := by
  refine ⟨h.1, ?_⟩
  rcases h.2 with h2 | ⟨g, cap, cur, fz, rfl, hb, hg, rest⟩
  · exact .inl h2
  · exact .inr ⟨g, cap, cur, fz, rfl, hb, (ht.block g (Array.getElem?_eq_some_iff.1 hg).1 (hn g rfl)).trans hg, rest⟩
theorem ownF_conv {w : World} {base : Nat} {v : Value} {o : Bs} (h : w.ownsRowF base 5 1 v o.length (u8L o)) :
    (convert 47 9 v).run Tryz.prog w = .ok (.string (mkS o)) w := by
  rcases h.2 with ⟨rfl, hz⟩ | ⟨g, cap, cur, fz, rfl, hb, hg, rest⟩
  · have : o = [] := List.eq_nil_of_length_eq_zero hz
    subst this
    rw [run_convert_bytes_string w 47 9 5 none 0 0 Tryz.underlying47 Tryz.underlying5 Tryz.underlying9]
    simp [Conv.bytesToString]
    rfl
  · have hB : Lib.Bytes w g 0 (mkS o) := fun i hi => by
      have hi' : i < o.length := hi
      have := h.cells (g := g) rfl i (.int .u8 (o[i]'hi').toNat) (by unfold u8L; rw [List.getElem?_map, List.getElem?_eq_getElem hi']; rfl)
      have e : (⟨g, 0, none⟩ : Addr).add i = ⟨g, 0 + i, none⟩ := by unfold Addr.add; split <;> simp_all
      rw [e] at this
      exact this
    have := Lib.run_convert_window (P := Tryz.prog) w 47 5 9 Tryz.underlying47 Tryz.underlying5 Tryz.underlying9 g 0 (mkS o) hB 0 o.length cap (by rw [mkS_size]; omega)
    simp only [Nat.zero_add, Nat.add_zero] at this
    rw [this]
    have e2 : (mkS o).extract 0 o.length = mkS o := by rw [mkS_take, List.take_length]
    rw [e2]
structure RunW (w0 : World) (g : Nat) (v1 v2 v3 v4 : Value) (r : Bs) (v : Value) (o : Bs) (w : World) : Prop where
  rd : RdB w g r v1 v2 v3 v4
  row : w.ownsRowF w0.heap.size 5 1 v o.length (u8L o)
  t : Turned [g] w0 w
section
variable {w0 w w' : World} {g : Nat} {v1 v2 v3 v4 v v' : Value} {r r' o : Bs}
theorem RunW.ne (h : RunW w0 g v1 v2 v3 v4 r v o w) : v.ownBlock ≠ some g := Lib.ownBlock_neF h.row h.rd (by decide)
theorem RunW.next (h : RunW w0 g v1 v2 v3 v4 r v o w) (ht : Turned [g] w w') (hr : RdB w' g r' v1 v2 v3 v4) : RunW w0 g v1 v2 v3 v4 r' v o w' :=
  ⟨hr, ownF_turned h.row ht fun k hk hm => by simp at hm; subst hm; exact h.ne hk, h.t.trans ht (frG _ _)⟩
theorem RunW.grown (h : RunW w0 g v1 v2 v3 v4 r v o w) {s : Bs} (hg : w.grownBy w' v.ownBlock) (ho : w'.ownsRowF w0.heap.size 5 1 v' (o.length + s.length) (u8L o ++ u8L s)) : RunW w0 g v1 v2 v3 v4 r v' (o ++ s) w' :=
  ⟨Blk.grown h.rd hg fun e => h.ne e.symm, by rw [List.length_append, u8L_app]; exact ho, h.t.grown hg fun k hk => .inr (h.row.lt k hk).1⟩
theorem RunW.form (h : RunW w0 g v1 v2 v3 v4 r v o w) : ∃ A c, v = .slice A o.length c := by
  rcases h.row.2 with ⟨hv, hz⟩ | ⟨g, cap, cur, fz, hv, _⟩
  · exact ⟨none, 0, by rw [hv, hz]⟩
  · exact ⟨_, _, hv⟩
theorem RunW.size (h : RunW w0 g v1 v2 v3 v4 r v o w) : w0.heap.size ≤ w.heap.size := h.t.size
end
end Go.Proofs.YtoifibnmincodaaGreatDoor
