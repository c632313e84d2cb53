/- Whether one of a list's things is so: slices.IndexFunc and slices.ContainsFunc at texts and dependencies. -/
import Derived.Test.YtinldjjbfhpnkaaDoorDCuts
namespace Go.Proofs.YtinldjjbfhpnkaaDoor
set_option linter.unusedSimpArgs false
set_option linter.unusedVariables false
open Go.RowKit

/-- What may be told of a list by asking one after the other. -/
def Anys {α : Type} (l : List α) (G : α → Bool → Prop) (b : Bool) : Prop := (b = true ∧ ∃ a ∈ l, G a true) ∨ (b = false ∧ ∀ a ∈ l, G a false)
theorem Anys.det {α : Type} {l : List α} {G : α → Bool → Prop} {p : α → Bool} {b : Bool} (h : Anys l G b) (hg : ∀ a b, G a b → b = p a) : b = l.any p := by
  rcases h with ⟨rfl, a, ha, h1⟩ | ⟨rfl, h1⟩
  · exact (List.any_eq_true.2 ⟨a, ha, (hg a true h1).symm⟩).symm
  · symm
    rw [List.any_eq_false]
    intro a ha
    rw [← hg a false (h1 a ha)]
    decide
theorem alls_snoc {α : Type} {l : List α} {k : Nat} {a : α} {P : α → Prop} (h : ∀ x ∈ l.take k, P x) (hk : l[k]? = some a) (ha : P a) : ∀ x ∈ l.take (k + 1), P x := by
  rw [List.take_add_one, hk]
  intro x hx
  rcases List.mem_append.1 hx with hx | hx
  · exact h x hx
  · simp at hx; subst hx; exact ha

def IdxPost {α : Type} (l : List α) (G : α → Bool → Prop) (e : Ending) : Prop := ∃ (n : Int) (b : Bool), decide (0 ≤ n) = b ∧ Anys l G b ∧ e = .returned (.int .i64 n)
def BoolPost (R : Bool → Prop) (e : Ending) : Prop := ∃ b, R b ∧ e = .returned (.bool b)
def NumPost (R : Int → Prop) (e : Ending) : Prop := ∃ n, R n ∧ e = .returned (.int .i64 n)
set_option maxHeartbeats 2000000 in
set_option maxRecDepth 100000 in
theorem depIndex_any (f : FuncId) (ef : ∀ args w, (callFunc f args).run Tryd.prog w = .ok (.enter f args) w) (G : Dep → Bool → Prop) (ds : List Dep) (A : Option Addr) (c : Nat) (S : Nat → Prop) (w0 : World) (hA : ArgsAt w0 S ds A) (hl : ds.length ≤ c) (hc : c ≤ maxLen)
    (hp : ∀ d ∈ ds, ∀ (t : Value) (w : World), Below w0.heap.size w0 w → Lay w S d t → Calls Tryd.prog f #[.agg (rowD d t)] w fun e w' => BoolPost (G d) e ∧ Below w.heap.size w w') :
    Calls Tryd.prog 73 #[.slice A ds.length c, .func (.func f) #[] #[]] w0 fun e w' => IdxPost ds G e ∧ Below w0.heap.size w0 w' := by
  unfold maxLen at hc
  rcases Nat.eq_zero_or_pos ds.length with h0 | h0
  · obtain rfl := List.eq_nil_of_length_eq_zero h0
    clear hA h0 hp
    go_enter Tryd.func73, Tryd.ntmps73
    go_wp2_with fail
    go_loop [8] (fun i => i = .int .i64 0) (fun i => 0)
    case atStart => rfl
    case round =>
      subst hrel
      go_wp2_with fail
      go_ret
      exact ⟨⟨-1, false, by decide, .inr ⟨rfl, by simp⟩, rfl⟩, Below.refl _ _⟩
  obtain ⟨b, o, -, rfl, -, -, -⟩ := hA 0 ds[0] (List.getElem?_eq_getElem h0)
  have HA : Hid (∀ (k : Nat) (hk : k < ds.length), ∃ t, S b ∧ CellsD w0 b (o + k * 5) ds[k] t ∧ Lay w0 S ds[k] t) := fun k hk => by
    obtain ⟨b', o', t, e, h1, h2, h3⟩ := hA k ds[k] (List.getElem?_eq_getElem hk)
    injection e with e
    injection e with e1 e2
    subst e1; subst e2
    exact ⟨t, h1, h2, h3⟩
  have HPr := Lib.hid hp
  clear hA hp
  go_enter Tryd.func73, Tryd.ntmps73
  go_wp2_with fail
  go_loopw [8] (fun i wx => ∃ k : Nat, k ≤ ds.length ∧ i = .int .i64 (k : Int) ∧ Hid (∀ a ∈ ds.take k, G a false) ∧ Hid (Below w0.heap.size w0 wx)) (fun i _ => ds.length - (intOf i).toNat)
  case atStart => exact ⟨0, Nat.zero_le _, rfl, show ∀ a ∈ ds.take 0, G a false from by simp, Below.refl _ _⟩
  case round =>
    obtain ⟨k, hk, rfl, hall, hb⟩ := hrel
    by_cases hlt : k < ds.length
    · obtain ⟨t, hS, hC, hL⟩ := HA.out k hlt
      have hC2 := hC.stay (hb.out.block b hC.lt)
      have hL2 := hL.stay (fun _ h => h) (StayS.below' hb.out)
      obtain ⟨c0, c1, c2, c3, c4⟩ := hC2
      have C := Lib.hid (HPr.out ds[k] (List.getElem_mem hlt) t wr hb.out hL2)
      unfold rowD at C
      have hz := hb.out.size
      clear hS hC hL hL2
      go_wp2_with fail
      refine C.out.mono ?_
      rintro e w1 ⟨⟨bb, hg, rfl⟩, hb1⟩
      have HB : Hid (Below w0.heap.size w0 w1) := hb.out.trans (hb1.mono hz)
      clear hb1 hb C c0 c1 c2 c3 c4
      have HG := Lib.hid hg
      clear hg
      cases bb with
      | false =>
        have HN : Hid (∀ a ∈ ds.take (k + 1), G a false) := alls_snoc hall.out (List.getElem?_eq_getElem hlt) HG.out
        clear hall HG
        go_wp2_with fail
        go_roundw
        case rel => exact ⟨k + 1, by omega, by go_num, HN, HB⟩
        case measure => simp [intOf]; omega
      | true =>
        have HN : Hid (Anys ds G true) := .inl ⟨rfl, ds[k], List.getElem_mem hlt, HG.out⟩
        clear hall HG
        go_wp2_with fail
        go_ret
        exact ⟨⟨k, true, by simp, HN.out, rfl⟩, HB.out⟩
    · have HN : Hid (Anys ds G false) := .inr ⟨rfl, by
        have := hall.out
        rwa [List.take_of_length_le (by omega)] at this⟩
      clear hall
      go_wp2_with fail
      go_ret
      exact ⟨⟨-1, false, by decide, HN.out, rfl⟩, hb.out⟩
set_option maxHeartbeats 1000000 in
set_option maxRecDepth 100000 in
theorem depContains_any (f : FuncId) (ef : ∀ args w, (callFunc f args).run Tryd.prog w = .ok (.enter f args) w) (G : Dep → Bool → Prop) (ds : List Dep) (A : Option Addr) (c : Nat) (S : Nat → Prop) (w0 : World) (hA : ArgsAt w0 S ds A) (hl : ds.length ≤ c) (hc : c ≤ maxLen)
    (hp : ∀ d ∈ ds, ∀ (t : Value) (w : World), Below w0.heap.size w0 w → Lay w S d t → Calls Tryd.prog f #[.agg (rowD d t)] w fun e w' => BoolPost (G d) e ∧ Below w.heap.size w w') :
    Calls Tryd.prog 46 #[.slice A ds.length c, .func (.func f) #[] #[]] w0 fun e w' => BoolPost (Anys ds G) e ∧ Below w0.heap.size w0 w' := by
  have C := Lib.hid (depIndex_any f ef G ds A c S w0 hA hl hc hp)
  clear hA hp
  go_enter Tryd.func46, Tryd.ntmps46
  go_wp2_with fail
  refine C.out.mono ?_
  rintro e w1 ⟨⟨n, b, hn, ha, rfl⟩, hb1⟩
  have HB := Lib.hid hb1
  have HN := Lib.hid hn
  have HA := Lib.hid ha
  clear hb1 hn C ha
  go_wp2_with fail
  go_ret
  exact ⟨⟨b, HA.out, ret_bool HN.out⟩, HB.out⟩

/-- Texts in a row: each in a block of T. -/
def TextsAt (w : World) (T : Nat → Prop) (fl : List ByteArray) (A : Option Addr) : Prop := ∀ k s, fl[k]? = some s → ∃ b o, A = some ⟨b, o, none⟩ ∧ T b ∧ w.cell? ⟨b, o + k, none⟩ = some (.string s)
theorem TextsAt.stay {w w' : World} {T T' : Nat → Prop} {fl : List ByteArray} {A : Option Addr} (h : TextsAt w T fl A) (hT : ∀ b, T b → T' b) (hw : ∀ b, T b → b < w.heap.size → w'.heap[b]? = w.heap[b]?) : TextsAt w' T' fl A := fun k s hk => by
  obtain ⟨b, o, e, h1, h2⟩ := h k s hk
  exact ⟨b, o, e, hT b h1, (World.cell?_of_block (hw b h1 (cell_lt h2))).trans h2⟩
theorem TextsAt.below {w w' : World} {T : Nat → Prop} {fl : List ByteArray} {A : Option Addr} (h : TextsAt w T fl A) (hb : Below w.heap.size w w') : TextsAt w' T fl A := h.stay (fun _ h => h) (fun b _ hl => hb.block b hl)

set_option maxHeartbeats 2000000 in
set_option maxRecDepth 100000 in
theorem strIndex_any (f : FuncId) (ef : ∀ args w, (callFunc f args).run Tryd.prog w = .ok (.enter f args) w) (G : ByteArray → Bool → Prop) (ds : List ByteArray) (A : Option Addr) (c : Nat) (T : Nat → Prop) (w0 : World) (hA : TextsAt w0 T ds A) (hl : ds.length ≤ c) (hc : c ≤ maxLen)
    (hp : ∀ d ∈ ds, ∀ (w : World), Below w0.heap.size w0 w → Calls Tryd.prog f #[.string d] w fun e w' => BoolPost (G d) e ∧ Below w.heap.size w w') :
    Calls Tryd.prog 50 #[.slice A ds.length c, .func (.func f) #[] #[]] w0 fun e w' => IdxPost ds G e ∧ Below w0.heap.size w0 w' := by
  unfold maxLen at hc
  rcases Nat.eq_zero_or_pos ds.length with h0 | h0
  · obtain rfl := List.eq_nil_of_length_eq_zero h0
    clear hA h0 hp
    go_enter Tryd.func50, Tryd.ntmps50
    go_wp2_with fail
    go_loop [8] (fun i => i = .int .i64 0) (fun i => 0)
    case atStart => rfl
    case round =>
      subst hrel
      go_wp2_with fail
      go_ret
      exact ⟨⟨-1, false, by decide, .inr ⟨rfl, by simp⟩, rfl⟩, Below.refl _ _⟩
  obtain ⟨b, o, rfl, -, -⟩ := hA 0 ds[0] (List.getElem?_eq_getElem h0)
  have HA : Hid (∀ (k : Nat) (hk : k < ds.length), w0.cell? ⟨b, o + k, none⟩ = some (.string ds[k])) := fun k hk => by
    obtain ⟨b', o', e, h1, h2⟩ := hA k ds[k] (List.getElem?_eq_getElem hk)
    injection e with e
    injection e with e1 e2
    subst e1; subst e2
    exact h2
  have HPr := Lib.hid hp
  clear hA hp
  go_enter Tryd.func50, Tryd.ntmps50
  go_wp2_with fail
  go_loopw [8] (fun i wx => ∃ k : Nat, k ≤ ds.length ∧ i = .int .i64 (k : Int) ∧ Hid (∀ a ∈ ds.take k, G a false) ∧ Hid (Below w0.heap.size w0 wx)) (fun i _ => ds.length - (intOf i).toNat)
  case atStart => exact ⟨0, Nat.zero_le _, rfl, show ∀ a ∈ ds.take 0, G a false from by simp, Below.refl _ _⟩
  case round =>
    obtain ⟨k, hk, rfl, hall, hb⟩ := hrel
    by_cases hlt : k < ds.length
    · have hC := HA.out k hlt
      have c0 := (World.cell?_of_block (hb.out.block b (cell_lt hC))).trans hC
      have C := Lib.hid (HPr.out ds[k] (List.getElem_mem hlt) wr hb.out)
      have hz := hb.out.size
      clear hC
      go_wp2_with fail
      refine C.out.mono ?_
      rintro e w1 ⟨⟨bb, hg, rfl⟩, hb1⟩
      have HB : Hid (Below w0.heap.size w0 w1) := hb.out.trans (hb1.mono hz)
      clear hb1 hb C c0
      have HG := Lib.hid hg
      clear hg
      cases bb with
      | false =>
        have HN : Hid (∀ a ∈ ds.take (k + 1), G a false) := alls_snoc hall.out (List.getElem?_eq_getElem hlt) HG.out
        clear hall HG
        go_wp2_with fail
        go_roundw
        case rel => exact ⟨k + 1, by omega, by go_num, HN, HB⟩
        case measure => simp [intOf]; omega
      | true =>
        have HN : Hid (Anys ds G true) := .inl ⟨rfl, ds[k], List.getElem_mem hlt, HG.out⟩
        clear hall HG
        go_wp2_with fail
        go_ret
        exact ⟨⟨k, true, by simp, HN.out, rfl⟩, HB.out⟩
    · have HN : Hid (Anys ds G false) := .inr ⟨rfl, by
        have := hall.out
        rwa [List.take_of_length_le (by omega)] at this⟩
      clear hall
      go_wp2_with fail
      go_ret
      exact ⟨⟨-1, false, by decide, HN.out, rfl⟩, hb.out⟩
set_option maxHeartbeats 1000000 in
set_option maxRecDepth 100000 in
theorem strContains_any (f : FuncId) (ef : ∀ args w, (callFunc f args).run Tryd.prog w = .ok (.enter f args) w) (G : ByteArray → Bool → Prop) (ds : List ByteArray) (A : Option Addr) (c : Nat) (T : Nat → Prop) (w0 : World) (hA : TextsAt w0 T ds A) (hl : ds.length ≤ c) (hc : c ≤ maxLen)
    (hp : ∀ d ∈ ds, ∀ (w : World), Below w0.heap.size w0 w → Calls Tryd.prog f #[.string d] w fun e w' => BoolPost (G d) e ∧ Below w.heap.size w w') :
    Calls Tryd.prog 27 #[.slice A ds.length c, .func (.func f) #[] #[]] w0 fun e w' => BoolPost (Anys ds G) e ∧ Below w0.heap.size w0 w' := by
  have C := Lib.hid (strIndex_any f ef G ds A c T w0 hA hl hc hp)
  clear hA hp
  go_enter Tryd.func27, Tryd.ntmps27
  go_wp2_with fail
  refine C.out.mono ?_
  rintro e w1 ⟨⟨n, b, hn, ha, rfl⟩, hb1⟩
  have HB := Lib.hid hb1
  have HN := Lib.hid hn
  have HA := Lib.hid ha
  clear hb1 hn C ha
  go_wp2_with fail
  go_ret
  exact ⟨⟨b, HA.out, ret_bool HN.out⟩, HB.out⟩
end Go.Proofs.YtinldjjbfhpnkaaDoor
