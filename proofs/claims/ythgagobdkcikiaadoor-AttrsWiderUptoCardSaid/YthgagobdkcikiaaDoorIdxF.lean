/- Whether one of a list's texts is so: slices.IndexFunc and slices.ContainsFunc. -/
import Derived.Test.YthgagobdkcikiaaDoorStr
namespace Go.Proofs.YthgagobdkcikiaaDoor
set_option linter.unusedSimpArgs false
set_option linter.unusedVariables false
open Go.RowKit

theorem all_take {α : Type} {l : List α} {k : Nat} {a : α} {P : α → Prop} (h : ∀ x ∈ l.take k, P x) (hk : l[k]? = some a) (ha : P a) : ∀ x ∈ l.take (k + 1), P x := by
  rw [List.take_add_one, hk]
  intro x hx
  rcases List.mem_append.1 hx with hx | hx
  · exact h x hx
  · simp at hx; subst hx; exact ha
theorem any_yes {l : List ByteArray} {p : ByteArray → Bool} {a : ByteArray} (h : a ∈ l) (hp : p a = true) : l.any p = true := List.any_eq_true.2 ⟨a, h, hp⟩
theorem any_no {l : List ByteArray} {p : ByteArray → Bool} (h : ∀ a ∈ l, p a = false) : l.any p = false := by
  rw [List.any_eq_false]
  intro a ha
  rw [h a ha]; decide
theorem rd_str {w : World} {B : Nat} {A : Option Addr} {ds : List ByteArray} (h : Rd w B A (ds.map Value.string)) {k : Nat} (hk : k < ds.length) : ∃ b o, A = some ⟨b, o, none⟩ ∧ b < B ∧ w.cell? ⟨b, o + k, none⟩ = some (.string (ds[k]'hk)) :=
  h.at_ (by rw [List.getElem?_map, List.getElem?_eq_getElem hk]; rfl)
set_option maxHeartbeats 2000000 in
set_option maxRecDepth 100000 in
theorem idxF_any (f : FuncId) (ef : ∀ args w, (callFunc f args).run Tryd.prog w = .ok (.enter f args) w) (cap : Array Value) (p : ByteArray → Bool) (ds : List ByteArray) (A : Option Addr) (c : Nat) (w0 : World) (hA : Rd w0 w0.heap.size A (ds.map Value.string)) (hl : ds.length ≤ c) (hc : c ≤ maxLen)
    (hp : ∀ d ∈ ds, ∀ (w : World), Below w0.heap.size w0 w → Calls Tryd.prog f (#[.string d] ++ cap) w fun e w' => e = .returned (.bool (p d)) ∧ Below w.heap.size w w') :
    Calls Tryd.prog 44 #[.slice A ds.length c, .func (.func f) #[] cap] w0 fun e w' => (∃ n : Int, decide (0 ≤ n) = ds.any p ∧ e = .returned (.int .i64 n)) ∧ Below w0.heap.size w0 w' := by
  unfold maxLen at hc
  rcases Nat.eq_zero_or_pos ds.length with h0 | h0
  · obtain rfl := List.eq_nil_of_length_eq_zero h0
    clear hA h0 hp
    go_enter Tryd.func44, Tryd.ntmps44
    go_wp2_with fail
    go_loop [8] (fun i => i = .int .i64 0) (fun i => 0)
    case atStart => rfl
    case round =>
      subst hrel
      go_wp2_with fail
      go_ret
      exact ⟨⟨-1, by decide, rfl⟩, Below.refl _ _⟩
  obtain ⟨b, o, rfl, -, -⟩ := rd_str hA h0
  have HA : Hid (∀ (k : Nat) (hk : k < ds.length), w0.cell? ⟨b, o + k, none⟩ = some (.string ds[k])) := fun k hk => by
    obtain ⟨b', o', e, h1, h2⟩ := rd_str hA hk
    injection e with e
    injection e with e1 e2
    subst e1; subst e2
    exact h2
  have HPr := Lib.hid hp
  clear hA hp
  go_enter Tryd.func44, Tryd.ntmps44
  go_wp2_with fail
  go_loopw [8] (fun i wx => ∃ k : Nat, k ≤ ds.length ∧ i = .int .i64 (k : Int) ∧ Hid (∀ a ∈ ds.take k, p a = false) ∧ Hid (Below w0.heap.size w0 wx)) (fun i _ => ds.length - (intOf i).toNat)
  case atStart => exact ⟨0, Nat.zero_le _, rfl, show ∀ a ∈ ds.take 0, p a = false from by simp, Below.refl _ _⟩
  case round =>
    obtain ⟨k, hk, rfl, hall, hb⟩ := hrel
    by_cases hlt : k < ds.length
    · have hC := HA.out k hlt
      have c0 := (World.cell?_of_block (hb.out.block b (cell_lt hC))).trans hC
      have C := Lib.hid (HPr.out ds[k] (List.getElem_mem hlt) wr hb.out)
      have hz := hb.out.size
      have HT : Hid (p ds[k] = true → ds.any p = true) := fun h => any_yes (List.getElem_mem hlt) h
      have HF : Hid (p ds[k] = false → ∀ a ∈ ds.take (k + 1), p a = false) := fun h => all_take hall.out (List.getElem?_eq_getElem hlt) h
      clear hC hall
      generalize p ds[k] = bb at *
      go_wp2_with fail
      refine C.out.mono ?_
      rintro e w1 ⟨rfl, hb1⟩
      have HB : Hid (Below w0.heap.size w0 w1) := hb.out.trans (hb1.mono hz)
      clear hb1 hb C c0
      cases bb with
      | false =>
        have HN := Lib.hid (HF.out rfl)
        clear HF HT
        go_wp2_with fail
        go_roundw
        case rel => exact ⟨k + 1, by omega, by go_num, HN, HB⟩
        case measure => simp [intOf]; omega
      | true =>
        have HN := Lib.hid (HT.out rfl)
        clear HF HT
        go_wp2_with fail
        go_ret
        exact ⟨⟨k, by rw [HN.out]; simp, rfl⟩, HB.out⟩
    · have HN : Hid (ds.any p = false) := any_no (by
        have := hall.out
        rwa [List.take_of_length_le (by omega)] at this)
      clear hall
      go_wp2_with fail
      go_ret
      exact ⟨⟨-1, by rw [HN.out]; decide, rfl⟩, hb.out⟩
set_option maxHeartbeats 1000000 in
set_option maxRecDepth 100000 in
theorem hasF_any (f : FuncId) (ef : ∀ args w, (callFunc f args).run Tryd.prog w = .ok (.enter f args) w) (cap : Array Value) (p : ByteArray → Bool) (ds : List ByteArray) (A : Option Addr) (c : Nat) (w0 : World) (hA : Rd w0 w0.heap.size A (ds.map Value.string)) (hl : ds.length ≤ c) (hc : c ≤ maxLen)
    (hp : ∀ d ∈ ds, ∀ (w : World), Below w0.heap.size w0 w → Calls Tryd.prog f (#[.string d] ++ cap) w fun e w' => e = .returned (.bool (p d)) ∧ Below w.heap.size w w') :
    Calls Tryd.prog 29 #[.slice A ds.length c, .func (.func f) #[] cap] w0 fun e w' => e = .returned (.bool (ds.any p)) ∧ Below w0.heap.size w0 w' := by
  have C := Lib.hid (idxF_any f ef cap p ds A c w0 hA hl hc hp)
  clear hA hp
  generalize ds.any p = ans at *
  go_enter Tryd.func29, Tryd.ntmps29
  go_wp2_with fail
  refine C.out.mono ?_
  rintro e w1 ⟨⟨n, hn, rfl⟩, hb1⟩
  have HB := Lib.hid hb1
  have HN := Lib.hid hn
  clear hb1 hn C
  go_wp2_with fail
  go_ret
  exact ⟨ret_bool HN.out, HB.out⟩
end Go.Proofs.YthgagobdkcikiaaDoor
