/- Labels in a scope; a row of bytes that a call appends to while it takes from a reader. What a value stands for. -/
import Derived.Test.YtljldbdjkjllhaaGreatDoorZcb
import Derived.ScopeJumps
import Derived.Lib.FrozenHead
import Derived.Lib.SlBytesRow
import Derived.Lib.RuneBytes
/- Labels in a scope; a row of bytes that a call appends to while it takes from a reader. -/
namespace Go.Proofs.YtljldbdjkjllhaaGreatDoor
set_option linter.unusedSimpArgs false
set_option linter.unusedVariables false
open Go

def jumpM (R : Nat → Act → World → Prop) (Q : Exit → Act → World → Prop) : Exit → Act → World → Prop
  | .goto l, a, w => R l a w
  | e, a, w => Q e a w
/-- A scope with labels: what holds at each of them, and a number that falls. -/
theorem wp_scope_many {P : Program} {a : Act} {w : World} {Q : Exit → Act → World → Prop} {c : Code} (rest : Nat → Code) (J : Nat → Nat → Act → World → Prop)
    (hf : ∀ l n a w, J l n a w → findLabel c l = some (rest l))
    (pass : ∀ l n a w, J l n a w → (rest l).wp P (jumpM (fun l' a' w' => ∃ m, m < n ∧ J l' m a' w') Q) a w)
    (first : c.wp P (jumpM (fun l' a' w' => ∃ m, J l' m a' w') Q) a w) : (Code.scope c).wp P Q a w := by
  intro b k cs
  have hg : ∀ l, findLabel c l = some (rest l) → gotoIn l (.inScope c :: k) = some (.code (rest l) :: .inScope c :: k) := fun l h => by simp [gotoIn, h]
  have key : ∀ n l a w, J l n a w → ∃ e a' w', Q e a' w' ∧ Arrives P (lone (b.at a (.code (rest l) :: .inScope c :: k)) cs w) b k cs e a' w' := by
    intro n
    induction n using Nat.strongRecOn with
    | _ n ih =>
      intro l a w hJ
      obtain ⟨e, a₁, w₁, hq, harr⟩ := pass l n a w hJ b (.inScope c :: k) cs
      cases e with
      | normal => exact ⟨.normal, a₁, w₁, hq, Steps.trans harr (.one step_inScope)⟩
      | exit id => exact ⟨.exit id, a₁, w₁, hq, fun k' hk => harr k' (by simp [exitTo, hk])⟩
      | goto l' =>
        obtain ⟨m, hm, hJ'⟩ := hq
        obtain ⟨e₂, a₂, w₂, hq₂, harr₂⟩ := ih m hm l' a₁ w₁ hJ'
        exact ⟨e₂, a₂, w₂, hq₂, .of_steps (harr _ (hg l' (hf _ _ _ _ hJ'))) harr₂⟩
      | ret => exact ⟨_, a₁, w₁, hq, harr⟩
      | panic ch => exact ⟨_, a₁, w₁, hq, harr⟩
      | outgrown => exact ⟨_, a₁, w₁, hq, harr⟩
  obtain ⟨e, a₁, w₁, hq, harr⟩ := first b (.inScope c :: k) cs
  cases e with
  | normal => exact ⟨.normal, a₁, w₁, hq, .head step_scope (Steps.trans harr (.one step_inScope))⟩
  | exit id => exact ⟨.exit id, a₁, w₁, hq, fun k' hk => .head step_scope (harr k' (by simp [exitTo, hk]))⟩
  | goto l' =>
    obtain ⟨m, hJ'⟩ := hq
    obtain ⟨e₂, a₂, w₂, hq₂, harr₂⟩ := key m l' a₁ w₁ hJ'
    exact ⟨e₂, a₂, w₂, hq₂, .of_steps (.head step_scope (harr _ (hg l' (hf _ _ _ _ hJ')))) harr₂⟩
  | ret => exact ⟨_, a₁, w₁, hq, .of_steps (.one step_scope) harr⟩
  | panic ch => exact ⟨_, a₁, w₁, hq, .of_steps (.one step_scope) harr⟩
  | outgrown => exact ⟨_, a₁, w₁, hq, .of_steps (.one step_scope) harr⟩
/-- .. with two labels. -/
theorem wp_scope_2 {P : Program} {a : Act} {w : World} {Q : Exit → Act → World → Prop} {c r0 r1 : Code} (J : Nat → Nat → Act → World → Prop) (h0 : findLabel c 0 = some (Code.skip.seq r0)) (h1 : findLabel c 1 = some (Code.skip.seq r1))
    (hJ : ∀ l n a w, J l n a w → l < 2)
    (p0 : ∀ n a w, J 0 n a w → r0.wp P (jumpM (fun l' a' w' => ∃ m, m < n ∧ J l' m a' w') Q) a w)
    (p1 : ∀ n a w, J 1 n a w → r1.wp P (jumpM (fun l' a' w' => ∃ m, m < n ∧ J l' m a' w') Q) a w)
    (first : (∀ n a w, J 0 n a w → r0.wp P (jumpM (fun l' a' w' => ∃ m, J l' m a' w') Q) a w) → c.wp P (jumpM (fun l' a' w' => ∃ m, J l' m a' w') Q) a w) : (Code.scope c).wp P Q a w := by
  refine wp_scope_many (fun l => match l with | 0 => Code.skip.seq r0 | _ => Code.skip.seq r1) J (fun l n a w h => ?_) (fun l n a w h => ?_) (first fun n a w h => ?_)
  · have := hJ _ _ _ _ h
    match l, this with
    | 0, _ => exact h0
    | 1, _ => exact h1
  · have := hJ _ _ _ _ h
    match l, this with
    | 0, _ => exact wp_seq (wp_skip (p0 n a w h))
    | 1, _ => exact wp_seq (wp_skip (p1 n a w h))
  · refine Code.wp_mono (fun e a' w' he => ?_) (p0 n a w h)
    cases e <;> first | exact he | (obtain ⟨m, _, h⟩ := he; exact ⟨m, h⟩)
/-- .. with five. -/
theorem wp_scope_5 {P : Program} {a : Act} {w : World} {Q : Exit → Act → World → Prop} {c r0 r1 r2 r3 r4 : Code} (J : Nat → Nat → Act → World → Prop) (h0 : findLabel c 0 = some (Code.skip.seq r0)) (h1 : findLabel c 1 = some (Code.skip.seq r1)) (h2 : findLabel c 2 = some (Code.skip.seq r2)) (h3 : findLabel c 3 = some (Code.skip.seq r3)) (h4 : findLabel c 4 = some (Code.skip.seq r4))
    (hJ : ∀ l n a w, J l n a w → l < 5)
    (p0 : ∀ n a w, J 0 n a w → r0.wp P (jumpM (fun l' a' w' => ∃ m, m < n ∧ J l' m a' w') Q) a w)
    (p1 : ∀ n a w, J 1 n a w → r1.wp P (jumpM (fun l' a' w' => ∃ m, m < n ∧ J l' m a' w') Q) a w)
    (p2 : ∀ n a w, J 2 n a w → r2.wp P (jumpM (fun l' a' w' => ∃ m, m < n ∧ J l' m a' w') Q) a w)
    (p3 : ∀ n a w, J 3 n a w → r3.wp P (jumpM (fun l' a' w' => ∃ m, m < n ∧ J l' m a' w') Q) a w)
    (p4 : ∀ n a w, J 4 n a w → r4.wp P (jumpM (fun l' a' w' => ∃ m, m < n ∧ J l' m a' w') Q) a w)
    (first : (∀ n a w, J 0 n a w → r0.wp P (jumpM (fun l' a' w' => ∃ m, J l' m a' w') Q) a w) → c.wp P (jumpM (fun l' a' w' => ∃ m, J l' m a' w') Q) a w) : (Code.scope c).wp P Q a w := by
  refine wp_scope_many (fun l => match l with | 0 => Code.skip.seq r0 | 1 => Code.skip.seq r1 | 2 => Code.skip.seq r2 | 3 => Code.skip.seq r3 | _ => Code.skip.seq r4) J (fun l n a w h => ?_) (fun l n a w h => ?_) (first fun n a w h => ?_)
  · have := hJ _ _ _ _ h
    match l, this with
    | 0, _ => exact h0
    | 1, _ => exact h1
    | 2, _ => exact h2
    | 3, _ => exact h3
    | 4, _ => exact h4
  · have := hJ _ _ _ _ h
    match l, this with
    | 0, _ => exact wp_seq (wp_skip (p0 n a w h))
    | 1, _ => exact wp_seq (wp_skip (p1 n a w h))
    | 2, _ => exact wp_seq (wp_skip (p2 n a w h))
    | 3, _ => exact wp_seq (wp_skip (p3 n a w h))
    | 4, _ => exact wp_seq (wp_skip (p4 n a w h))
  · refine Code.wp_mono (fun e a' w' he => ?_) (p0 n a w h)
    cases e <;> first | exact he | (obtain ⟨m, _, h⟩ := he; exact ⟨m, h⟩)

/-! A row of bytes that is appended to. -/
open Go.RowKit
def u8L (l : Bs) : List Value := l.map fun b => Value.int .u8 b.toNat
theorem u8L_app (a b : Bs) : u8L (a ++ b) = u8L a ++ u8L b := List.map_append
theorem ownF_turned {w w' : World} {F : List Nat} {base size n : Nat} {e : TypeId} {v : Value} {xs : List Value} (h : w.ownsRowF base e size v n xs) (ht : Turned F w w') (hn : ∀ k, v.ownBlock = some k → k ∉ F) : w'.ownsRowF base e size v n xs := by
  refine ⟨h.1, ?_⟩
  rcases h.2 with h2 | ⟨g, cap, cur, fz, rfl, hb, hg, rest⟩
  · exact .inl h2
  · exact .inr ⟨g, cap, cur, fz, rfl, hb, (ht.block g (Array.getElem?_eq_some_iff.1 hg).1 (hn g rfl)).trans hg, rest⟩
theorem ownF_conv {w : World} {base : Nat} {v : Value} {o : Bs} (h : w.ownsRowF base 5 1 v o.length (u8L o)) :
    (convert 46 9 v).run Tryz.prog w = .ok (.string (mkS o)) w := by
  rcases h.2 with ⟨rfl, hz⟩ | ⟨g, cap, cur, fz, rfl, hb, hg, rest⟩
  · have : o = [] := List.eq_nil_of_length_eq_zero hz
    subst this
    rw [run_convert_bytes_string w 46 9 5 none 0 0 Tryz.underlying46 Tryz.underlying5 Tryz.underlying9]
    simp [Conv.bytesToString]
    rfl
  · have hB : Lib.Bytes w g 0 (mkS o) := fun i hi => by
      have hi' : i < o.length := hi
      have := h.cells (g := g) rfl i (.int .u8 (o[i]'hi').toNat) (by unfold u8L; rw [List.getElem?_map, List.getElem?_eq_getElem hi']; rfl)
      have e : (⟨g, 0, none⟩ : Addr).add i = ⟨g, 0 + i, none⟩ := by unfold Addr.add; split <;> simp_all
      rw [e] at this
      exact this
    have := Lib.run_convert_window (P := Tryz.prog) w 46 5 9 Tryz.underlying46 Tryz.underlying5 Tryz.underlying9 g 0 (mkS o) hB 0 o.length cap (by rw [mkS_size]; omega)
    simp only [Nat.zero_add, Nat.add_zero] at this
    rw [this]
    have e2 : (mkS o).extract 0 o.length = mkS o := by rw [mkS_take, List.take_length]
    rw [e2]
structure RunW (w0 : World) (g : Nat) (v1 v2 v3 v4 : Value) (r : Bs) (v : Value) (o : Bs) (w : World) : Prop where
  rd : RdB w g r v1 v2 v3 v4
  row : w.ownsRowF w0.heap.size 5 1 v o.length (u8L o)
  t : Turned [g] w0 w
section
variable {w0 w w' : World} {g : Nat} {v1 v2 v3 v4 v v' : Value} {r r' o : Bs}
theorem RunW.ne (h : RunW w0 g v1 v2 v3 v4 r v o w) : v.ownBlock ≠ some g := Lib.ownBlock_neF h.row h.rd (by decide)
theorem RunW.next (h : RunW w0 g v1 v2 v3 v4 r v o w) (ht : Turned [g] w w') (hr : RdB w' g r' v1 v2 v3 v4) : RunW w0 g v1 v2 v3 v4 r' v o w' :=
  ⟨hr, ownF_turned h.row ht fun k hk hm => by simp at hm; subst hm; exact h.ne hk, h.t.trans ht (frG _ _)⟩
theorem RunW.grown (h : RunW w0 g v1 v2 v3 v4 r v o w) {s : Bs} (hg : w.grownBy w' v.ownBlock) (ho : w'.ownsRowF w0.heap.size 5 1 v' (o.length + s.length) (u8L o ++ u8L s)) : RunW w0 g v1 v2 v3 v4 r v' (o ++ s) w' :=
  ⟨Blk.grown h.rd hg fun e => h.ne e.symm, by rw [List.length_append, u8L_app]; exact ho, h.t.grown hg fun k hk => .inr (h.row.lt k hk).1⟩
theorem RunW.form (h : RunW w0 g v1 v2 v3 v4 r v o w) : ∃ A c, v = .slice A o.length c := by
  rcases h.row.2 with ⟨hv, hz⟩ | ⟨g, cap, cur, fz, hv, _⟩
  · exact ⟨none, 0, by rw [hv, hz]⟩
  · exact ⟨_, _, hv⟩
theorem RunW.size (h : RunW w0 g v1 v2 v3 v4 r v o w) : w0.heap.size ≤ w.heap.size := h.t.size
end
end Go.Proofs.YtljldbdjkjllhaaGreatDoor

/- What a value stands for. -/
namespace Go.Proofs.YtljldbdjkjllhaaGreatDoor
set_option linter.unusedSimpArgs false
set_option linter.unusedVariables false
open Go.RowKit

def ActV (g : Nat) (q : Bs) (v : Value) (act : Act) : Prop := ∃ u2 u3 u4 u6 u7 u8 u9 u10 u11 u12 u13 u14 u15 u16 u17 u18 u19 u20 u21 u22 : Value, act = { tmps := #[.pointer (some ⟨g, 0, none⟩), .string (mkS q), u2, u3, u4, v, u6, u7, u8, u9, u10, u11, u12, u13, u14, u15, u16, u17, u18, u19, u20, u21, u22], defers := [] }
def JV (w0 : World) (g : Nat) (v1 v2 v3 v4 : Value) (q : Bs) (res : RR Bs) (l n : Nat) (act : Act) (w : World) : Prop :=
  ∃ r v o k, r.length < k ∧ r.length ≤ 40000 ∧ RunW w0 g v1 v2 v3 v4 r v o w ∧ ActV g q v act ∧
    ((l = 0 ∧ n = 2 * r.length + 1 ∧ o.length + 4 * r.length ≤ 200000 ∧ valueR q k o r = res) ∨
     (l = 1 ∧ n = 2 * r.length + 2 ∧ o.length + 4 * r.length + 4 ≤ 200000 ∧ ((entityR r).bind fun y => valueR q k (o ++ Lib.encodeRune (y.1 : Int)) y.2) = res))
theorem valueR_no {q o r : Bs} {k : Nat} {e : Int} (h : plainR ([60, 38] ++ q) r = .error e) : valueR q (k + 1) o r = .error e := by rw [valueR, h]; rfl
theorem valueR_amp {q o r : Bs} {k : Nat} {x : Bs × Bs} (h : plainR ([60, 38] ++ q) r = .ok x) (ha : Lib.hasPrefix x.2 [38] = true) :
    valueR q (k + 1) o r = (entityR (Lib.trimPrefix x.2 [38])).bind fun y => valueR q k (o ++ x.1 ++ Lib.encodeRune (y.1 : Int)) y.2 := by
  rw [valueR, h]
  show (if _ then _ else _) = _
  rw [if_pos ha]
theorem valueR_end {q o r : Bs} {k : Nat} {x : Bs × Bs} (h : plainR ([60, 38] ++ q) r = .ok x) (ha : Lib.hasPrefix x.2 [38] = false) :
    valueR q (k + 1) o r = (wantR q x.2).map fun y => (o ++ x.1, y.2) := by
  rw [valueR, h]
  show (if _ then _ else _) = _
  rw [ha]
  rfl
theorem trim_no {l p : Bs} (h : Lib.hasPrefix l p = false) : Lib.trimPrefix l p = l := by unfold Lib.trimPrefix; rw [h]; rfl
theorem takeR_both {n : Nat} {l : Bs} {x : Bs × Bs} (h : takeR n l = .ok x) : x.1.length + x.2.length = l.length := by
  obtain ⟨-, h1, h2⟩ := takeR_len h
  rw [h1, h2]; simp; omega
theorem numR_small {b m : Nat} {d : Bs} {n : Nat} (h : numR b m d = some n) : n < 16777216 ∨ n ≤ 1114111 := by
  rw [numR_eq] at h
  split at h
  · cases h
  · obtain ⟨x, -, hx⟩ := Option.bind_eq_some_iff.1 h
    unfold numE at hx
    split at hx
    · rename_i hs
      injection hx with hx
      subst hx
      unfold standsX Lib.validRune at hs
      simp at hs
      omega
    · cases hx
theorem charR_small {nm : Bs} {n : Nat} (h : charR nm = some n) : n < 16777216 := by
  rw [charR_find] at h
  have key : ∀ l : List (Bs × UInt8), findE nm l = some n → n < 16777216 := by
    intro l
    induction l with
    | nil =>
      intro h
      unfold findE charH at h
      split at h
      · rcases numR_small h with h | h <;> omega
      · split at h
        · rcases numR_small h with h | h <;> omega
        · cases h
    | cons e r ih =>
      intro h
      unfold findE at h
      split at h
      · injection h with h
        have := e.2.toNat_lt
        omega
      · exact ih h
  exact key _ h
theorem entityR_small {l : Bs} {x : Nat × Bs} (h : entityR l = .ok x) : x.1 < 16777216 := by
  rw [entityR_eq] at h
  split at h
  · split at h
    · rename_i c hc
      injection h with h
      subst h
      exact charR_small hc
    · cases h
  · cases h
theorem info_u8 : ∃ i, Tryz.prog.info? 5 = some i ∧ i.zero = some (.int .u8 0) ∧ i.size = 1 ∧ i.bytes = 1 := by
  have h : (Tryz.prog.info? 5).map (fun i => (i.zero, i.size, i.bytes)) = some (some (.int .u8 0), 1, 1) := by kernel_rfl
  obtain ⟨i, hi, h2⟩ := Option.map_eq_some_iff.1 h
  simp only [Prod.mk.injEq] at h2
  exact ⟨i, hi, h2.1, h2.2.1, h2.2.2⟩
theorem cat_q (q : Bs) : (⟨#[60, 38]⟩ : ByteArray) ++ mkS q = mkS ([60, 38] ++ q) := s_ext (by rw [bl_app]; rfl)
section
variable {w0 : World} {B g : Nat} {r0 : Bs} {v1 v2 v3 v4 : Value}
set_option maxHeartbeats 8000000 in
set_option maxRecDepth 1000000 in
theorem value_any (h : RdB w0 g r0 v1 v2 v3 v4) (hE : XEnv B w0) (hg : B ≤ g) (hr : r0.length ≤ 40000) {q : Bs} (hq : Seps ([60, 38] ++ q)) :
    Calls Tryz.prog 215 #[.pointer (some ⟨g, 0, none⟩), .string (mkS q)] w0 (Ate w0 g v1 v2 v3 v4 (valueQ q r0) sV) := by
  obtain ⟨i0, hi, hz0, hz1, hz2⟩ := info_u8
  have HI := Lib.hid hi
  have HEN : Hid (∀ w, Turned [g] w0 w → XEnv B w) := fun w ht => hE.one ht hg
  have HW0 : Hid (RunW w0 g v1 v2 v3 v4 r0 (.slice none 0 0) [] w0) := ⟨h, World.ownsRowF_nil _ _ _ _, Turned.refl _ _⟩
  have HR0 := Lib.hid hr
  have HQ := Lib.hid hq
  obtain ⟨res, hres⟩ : ∃ res, res = valueQ q r0 := ⟨_, rfl⟩
  have HRS : Hid (valueR q (r0.length + 1) [] r0 = res) := hres.symm
  rw [← hres]
  clear hres h hE hr hq hi
  have hcat := cat_q q
  have hqz : (mkS q).size ≤ 8 := by have := HQ.out.few; simp at this; rw [mkS_size]; omega
  go_enter Tryz.func215, Tryz.ntmps215
  go_wp2_with fail
  refine wp_scope_2 (JV w0 g v1 v2 v3 v4 q res) rfl rfl ?hJ ?p0 ?p1 ?first
  case hJ =>
    rintro l n a w ⟨r, v, o, k, -, -, -, -, ⟨rfl, -⟩ | ⟨rfl, -⟩⟩ <;> omega
  case first =>
    intro H
    have HH := Lib.hid H
    clear H
    go_wp2_with fail
    go_step3
    rename_i K hK
    refine hK _ _ (HH.out _ _ _ ⟨r0, .slice none 0 0, [], r0.length + 1, by omega, HR0.out, HW0.out, ⟨_, _, _, _, _, _, _, _, _, _, _, _, _, _, _, _, _, _, _, _, rfl⟩, .inl ⟨rfl, rfl, by have := HR0.out; simp; omega, HRS.out⟩⟩)
  case p0 =>
    rintro n a w ⟨r, v, o, k, hk, hr, hW, ⟨u2, u3, u4, u6, u7, u8, u9, u10, u11, u12, u13, u14, u15, u16, u17, u18, u19, u20, u21, u22, rfl⟩, hor⟩
    obtain ⟨hn, ho, hres⟩ : n = 2 * r.length + 1 ∧ o.length + 4 * r.length ≤ 200000 ∧ valueR q k o r = res := by
      rcases hor with ⟨-, h1, h2, h3⟩ | ⟨h0, -⟩
      · exact ⟨h1, h2, h3⟩
      · cases h0
    clear hor
    obtain ⟨k, rfl⟩ : ∃ k', k = k' + 1 := ⟨k - 1, by omega⟩
    have HW := Lib.hid hW
    have CP := Lib.hid (plain_any hW.rd hr HQ.out)
    rw [← hcat] at CP
    obtain ⟨A0, c0, hv0⟩ := hW.form
    subst hv0
    clear hW
    cases hp : plainR ([60, 38] ++ q) r with
    | error e =>
      have HE : Hid (res = .error e) := hres.symm.trans (valueR_no hp)
      have HP := Lib.hid hp
      clear hp hres hn ho hk
      go_wp2_with fail
      refine CP.out.mono ?_
      intro en w1 ha
      obtain ⟨h1, ⟨r', h2⟩, rfl⟩ := ha.no HP.out
      have HW1 := Lib.hid (HW.out.next h1 h2)
      clear ha h1 h2 CP
      unfold gaveUp
      go_wp2_with fail
      exact ⟨rfl, Ate.mkNo HW1.out.t HW1.out.rd HE.out⟩
    | ok x =>
      obtain ⟨t, r1⟩ := x
      have hlen : t.length + r1.length = r.length := takeR_both hp
      have HP := Lib.hid hp
      cases hpa : Lib.hasPrefix r1 [38] with
      | true =>
        have HE := Lib.hid ((valueR_amp (q := q) (o := o) (k := k) hp hpa).symm.trans hres)
        have htl := trim_lt hpa (by decide)
        have HPA := Lib.hid hpa
        clear hp hres hpa
        go_wp2_with fail
        refine CP.out.mono ?_
        intro en w1 ha
        obtain ⟨h1, h2, rfl⟩ := ha.ok HP.out
        have HW1 := Lib.hid (HW.out.next h1 h2)
        have hrow := HW1.out.row
        have hsz := HW1.out.size
        clear ha h1 h2 CP
        unfold sV
        go_wp2_with (at_builtin; refine Lib.wpList_append_own_stringF _ rfl _ _ 46 9 rfl w0.heap.size 5 i0 Tryz.underlying46 Tryz.underlying9 HI.out hz0 hz1 hz2 _ _ _ rfl hrow (mkS t) rfl ?c3 ?c4 ?c5 ?_)
        case c3 => rw [mkS_size]; unfold maxLen; omega
        case c4 => rw [mkS_size]; omega
        case c5 => exact hsz
        intro v' w2 hown' hgrow _
        have HW2 := Lib.hid (HW1.out.grown (s := t) hgrow hown')
        obtain ⟨A2, c2, hv2⟩ := HW2.out.form
        subst hv2
        have CA := Lib.hid (takes_any HW2.out.rd [38])
        rw [HPA.out] at CA
        clear hown' hgrow hrow
        go_wp2_with fail
        refine CA.out.mono ?_
        rintro e w3 ⟨rfl, h1, h2⟩
        have HW3 := Lib.hid (HW2.out.next h1 h2)
        clear h1 h2 CA
        go_wp2_with fail
        go_step3
        refine ⟨_, ?_, _, _, _, k, ?_, ?_, HW3.out, ⟨_, _, _, _, _, _, _, _, _, _, _, _, _, _, _, _, _, _, _, _, by rw [List.length_append]⟩, .inr ⟨rfl, rfl, ?_, HE.out⟩⟩
        · omega
        · omega
        · omega
        · simp only [List.length_append]; omega
      | false =>
        have HE := Lib.hid ((valueR_end (q := q) (o := o) (k := k) hp hpa).symm.trans hres)
        have htl := trim_no hpa
        have HPA := Lib.hid hpa
        clear hp hres hpa
        cases hw : wantR q r1 with
        | error e =>
          have HE2 : Hid (res = .error e) := by show res = _; rw [← HE.out]; show ((wantR q r1).map _ : RR Bs) = _; rw [hw]; rfl
          have HWN := Lib.hid hw
          clear hw HE
          go_wp2_with fail
          refine CP.out.mono ?_
          intro en w1 ha
          obtain ⟨h1, h2, rfl⟩ := ha.ok HP.out
          have HW1 := Lib.hid (HW.out.next h1 h2)
          have hrow := HW1.out.row
          have hsz := HW1.out.size
          clear ha h1 h2 CP
          unfold sV
          go_wp2_with (at_builtin; refine Lib.wpList_append_own_stringF _ rfl _ _ 46 9 rfl w0.heap.size 5 i0 Tryz.underlying46 Tryz.underlying9 HI.out hz0 hz1 hz2 _ _ _ rfl hrow (mkS t) rfl ?c3 ?c4 ?c5 ?_)
          case c3 => rw [mkS_size]; unfold maxLen; omega
          case c4 => rw [mkS_size]; omega
          case c5 => exact hsz
          intro v' w2 hown' hgrow _
          have HW2 := Lib.hid (HW1.out.grown (s := t) hgrow hown')
          obtain ⟨A2, c2, hv2⟩ := HW2.out.form
          subst hv2
          have CA := Lib.hid (takes_any HW2.out.rd [38])
          rw [HPA.out] at CA
          clear hown' hgrow hrow
          go_wp2_with fail
          refine CA.out.mono ?_
          rintro e w3 ⟨rfl, h1, h2⟩
          rw [htl] at h2
          have HW3 := Lib.hid (HW2.out.next h1 h2)
          have CW := Lib.hid (want_any h2 q)
          clear h1 h2 CA
          go_wp2_with fail
          refine CW.out.mono ?_
          intro e w4 ha
          obtain ⟨h1, ⟨r', h2⟩, rfl⟩ := ha.no HWN.out
          have HW4 := Lib.hid (HW3.out.next h1 h2)
          clear ha h1 h2 CW
          unfold gaveUp
          go_wp2_with fail
          exact ⟨rfl, Ate.mkNo HW4.out.t HW4.out.rd HE2.out⟩
        | ok y =>
          obtain ⟨u, r2⟩ := y
          have HE2 : Hid (res = .ok (o ++ t, r2)) := by show res = _; rw [← HE.out]; show ((wantR q r1).map _ : RR Bs) = _; rw [hw]; rfl
          have HWN := Lib.hid hw
          clear hw HE
          go_wp2_with fail
          refine CP.out.mono ?_
          intro en w1 ha
          obtain ⟨h1, h2, rfl⟩ := ha.ok HP.out
          have HW1 := Lib.hid (HW.out.next h1 h2)
          have hrow := HW1.out.row
          have hsz := HW1.out.size
          clear ha h1 h2 CP
          unfold sV
          go_wp2_with (at_builtin; refine Lib.wpList_append_own_stringF _ rfl _ _ 46 9 rfl w0.heap.size 5 i0 Tryz.underlying46 Tryz.underlying9 HI.out hz0 hz1 hz2 _ _ _ rfl hrow (mkS t) rfl ?c3 ?c4 ?c5 ?_)
          case c3 => rw [mkS_size]; unfold maxLen; omega
          case c4 => rw [mkS_size]; omega
          case c5 => exact hsz
          intro v' w2 hown' hgrow _
          have HW2 := Lib.hid (HW1.out.grown (s := t) hgrow hown')
          obtain ⟨A2, c2, hv2⟩ := HW2.out.form
          subst hv2
          have CA := Lib.hid (takes_any HW2.out.rd [38])
          rw [HPA.out] at CA
          clear hown' hgrow hrow
          go_wp2_with fail
          refine CA.out.mono ?_
          rintro e w3 ⟨rfl, h1, h2⟩
          rw [htl] at h2
          have HW3 := Lib.hid (HW2.out.next h1 h2)
          have CW := Lib.hid (want_any h2 q)
          clear h1 h2 CA
          go_wp2_with fail
          refine CW.out.mono ?_
          intro e w4 ha
          obtain ⟨h1, h2, rfl⟩ := ha.ok HWN.out
          have HW4 := Lib.hid (HW3.out.next h1 h2)
          have hcv := ownF_conv HW4.out.row
          simp only [List.length_append] at hcv
          clear ha h1 h2 CW
          unfold uV
          go_wp2_with fail
          try simp only [jumpM]
          go_ret
          exact Ate.mkOk HW4.out.t HW4.out.rd HE2.out
  case p1 =>
    rintro n a w ⟨r, v, o, k, hk, hr, hW, ⟨u2, u3, u4, u6, u7, u8, u9, u10, u11, u12, u13, u14, u15, u16, u17, u18, u19, u20, u21, u22, rfl⟩, hor⟩
    obtain ⟨hn, ho, hres⟩ : n = 2 * r.length + 2 ∧ o.length + 4 * r.length + 4 ≤ 200000 ∧ ((entityR r).bind fun y => valueR q k (o ++ Lib.encodeRune (y.1 : Int)) y.2) = res := by
      rcases hor with ⟨h0, -⟩ | ⟨-, h1, h2, h3⟩
      · cases h0
      · exact ⟨h1, h2, h3⟩
    clear hor
    have HW := Lib.hid hW
    have CE := Lib.hid (entity_any hW.rd (HEN.out w hW.t) hr)
    obtain ⟨A0, c0, hv0⟩ := hW.form
    subst hv0
    clear hW
    cases he : entityR r with
    | error e =>
      have HE : Hid (res = .error e) := by show res = _; rw [← hres, he]; rfl
      have HP := Lib.hid he
      clear he hres hn ho hk
      go_wp2_with fail
      refine CE.out.mono ?_
      intro en w1 ha
      obtain ⟨h1, ⟨r', h2⟩, rfl⟩ := ha.no HP.out
      have HW1 := Lib.hid (HW.out.next h1 h2)
      clear ha h1 h2 CE
      unfold gaveUp
      go_wp2_with fail
      exact ⟨rfl, Ate.mkNo HW1.out.t HW1.out.rd HE.out⟩
    | ok x =>
      obtain ⟨ch, r1⟩ := x
      have HE : Hid (valueR q k (o ++ Lib.encodeRune (ch : Int)) r1 = res) := by show _ = res; rw [← hres, he]; rfl
      have hlen := entityR_len he
      have hch : (ch : Int) ≤ 2147483647 := by
        have := entityR_small he
        omega
      have HP := Lib.hid he
      clear he hres
      have CR := Lib.hid (fun w v n xs h1 h2 h3 => Tryz.utf8_AppendRune_row w0.heap.size v n xs (ch : Int) (by omega) hch w h1 h2 h3)
      go_wp2_with fail
      refine CE.out.mono ?_
      intro en w1 ha
      obtain ⟨h1, h2, rfl⟩ := ha.ok HP.out
      have HW1 := Lib.hid (HW.out.next h1 h2)
      have CR1 := Lib.hid (CR.out w1 _ _ _ HW1.out.row (by omega) HW1.out.size)
      clear ha h1 h2 CE CR
      unfold rV
      go_wp2_with fail
      refine CR1.out.mono ?_
      rintro e w2 ⟨v', rfl, hown', ob, hgrow⟩
      have hl4 : (Lib.encodeRune (ch : Int)).length ≤ 4 := by have := (Lib.runeCells_le (ch : Int)).2; rw [Lib.runeCells_length] at this; exact this
      have HW2 : Hid (RunW w0 g v1 v2 v3 v4 r1 v' (o ++ Lib.encodeRune (ch : Int)) w2) := by
        refine RunW.grown (w := w1.alloc ob) ⟨Blk.alloc HW1.out.rd _, ownF_turned HW1.out.row ((Turned.refl [] w1).alloc ob) (fun k hk hm => by cases hm), HW1.out.t.alloc ob⟩ hgrow ?_
        rw [← Lib.runeCells_length]
        have : u8L (Lib.encodeRune (ch : Int)) = Lib.runeCells (ch : Int) := Lib.byteCells_encodeRune _
        rw [this]
        exact hown'
      clear hown' hgrow CR1
      go_wp2_with fail
      go_step3
      refine ⟨_, ?_, _, _, _, k, ?_, ?_, HW2.out, ⟨_, _, _, _, _, _, _, _, _, _, _, _, _, _, _, _, _, _, _, _, rfl⟩, .inl ⟨rfl, rfl, ?_, HE.out⟩⟩
      · omega
      · omega
      · omega
      · simp only [List.length_append]; omega
end
end Go.Proofs.YtljldbdjkjllhaaGreatDoor
