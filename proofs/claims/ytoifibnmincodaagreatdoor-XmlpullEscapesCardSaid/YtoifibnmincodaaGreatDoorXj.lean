/- A list of attributes in memory; whether one of them has a name. -/
import Derived.Test.YtoifibnmincodaaGreatDoorXi
namespace Go.Proofs.YtoifibnmincodaaGreatDoor
set_option linter.unusedSimpArgs false
set_option linter.unusedVariables false
open Go.RowKit

abbrev Al := List (Bs × Bs)
/-- The cells of attributes; where they lie. -/
def alL (l : Al) : List Value := l.flatMap fun a => [.string (mkS a.1), .string (mkS a.2)]
theorem alL_len (l : Al) : (alL l).length = l.length * 2 := by
  induction l with
  | nil => rfl
  | cons a r ih =>
    have : alL (a :: r) = .string (mkS a.1) :: .string (mkS a.2) :: alL r := rfl
    rw [this, List.length_cons, List.length_cons, ih, List.length_cons]; omega
theorem alL_app (a b : Al) : alL (a ++ b) = alL a ++ alL b := List.flatMap_append ..
theorem alL_at {l : Al} {k : Nat} {a : Bs × Bs} (h : l[k]? = some a) : (alL l)[k * 2]? = some (.string (mkS a.1)) ∧ (alL l)[k * 2 + 1]? = some (.string (mkS a.2)) := by
  induction l generalizing k with
  | nil => cases h
  | cons b r ih =>
    have hc : alL (b :: r) = .string (mkS b.1) :: .string (mkS b.2) :: alL r := rfl
    cases k with
    | zero => injection h with h; subst h; exact ⟨rfl, rfl⟩
    | succ k =>
      have := ih (k := k) (by simpa using h)
      rw [hc, show (k + 1) * 2 = k * 2 + 1 + 1 by omega, show k * 2 + 1 + 1 + 1 = (k * 2 + 1) + 1 + 1 by omega]
      simpa using this
def PairsAt (w : World) (b o : Nat) (l : Al) : Prop := ∀ k a, l[k]? = some a → w.cell? ⟨b, o + k * 2, none⟩ = some (.string (mkS a.1)) ∧ w.cell? ⟨b, o + k * 2 + 1, none⟩ = some (.string (mkS a.2))
/-- A slice of attributes: where there are any, they lie somewhere. -/
def AlAt (w : World) (B : Nat) (A : Option Addr) (l : Al) : Prop := 0 < l.length → ∃ b o, A = some ⟨b, o, none⟩ ∧ b < B ∧ PairsAt w b o l
theorem AlAt.below {w w' : World} {B B' : Nat} {A : Option Addr} {l : Al} (h : AlAt w B A l) (hb : Below B' w w') (hB : B ≤ B') : AlAt w' B A l := fun hl => by
  obtain ⟨b, o, rfl, hlt, hp⟩ := h hl
  refine ⟨b, o, rfl, hlt, fun k a hk => ?_⟩
  have e := hb.block b (Nat.lt_of_lt_of_le hlt hB)
  exact ⟨(World.cell?_of_block (a := ⟨b, o + k * 2, none⟩) e).trans (hp k a hk).1, (World.cell?_of_block (a := ⟨b, o + k * 2 + 1, none⟩) e).trans (hp k a hk).2⟩
theorem own_al {w : World} {base : Nat} {A : Option Addr} {m c : Nat} {l : Al} (h : w.ownsRow base 29 2 (.slice A m c) l.length (alL l)) : AlAt w w.heap.size A l := fun hl => by
  obtain ⟨b, rfl, hc⟩ := own_ats h (k := 0) (u := .string (mkS (l[0]'hl).1)) (alL_at (k := 0) (List.getElem?_eq_getElem hl)).1
  refine ⟨b, 0, rfl, cell_lt hc, fun k a hk => ?_⟩
  obtain ⟨b', e, h1⟩ := own_ats h (alL_at hk).1
  obtain ⟨b'', e', h2⟩ := own_ats h (alL_at hk).2
  injection e with e; injection e with e; subst e
  injection e' with e'; injection e' with e'; subst e'
  rw [Nat.zero_add]
  exact ⟨h1, h2⟩
theorem all_take {α : Type} {l : List α} {k : Nat} {a : α} {P : α → Prop} (h : ∀ x ∈ l.take k, P x) (hk : l[k]? = some a) (ha : P a) : ∀ x ∈ l.take (k + 1), P x := by
  rw [List.take_add_one, hk]
  intro x hx
  rcases List.mem_append.1 hx with hx | hx
  · exact h x hx
  · simp at hx; subst hx; exact ha
def hasNm (nm : Bs) (a : Bs × Bs) : Bool := decide (a.1 = nm)
set_option maxHeartbeats 1000000 in
set_option maxRecDepth 100000 in
theorem same_any (nm : Bs) (a : Bs × Bs) (p : Nat) (w : World) (hc : w.cell? ⟨p, 0, none⟩ = some (.string (mkS nm))) :
    Calls Tryz.prog 109 #[.agg #[.string (mkS a.1), .string (mkS a.2)], .pointer (some ⟨p, 0, none⟩)] w fun e w' => e = .returned (.bool (hasNm nm a)) ∧ Below w.heap.size w w' := by
  have hlt := cell_lt hc
  have hb : Below w.heap.size w (w.alloc (.cells #[.string (mkS a.1), .string (mkS a.2)] 29)) := (Below.refl _ _).alloc (Nat.le_refl _) _
  have hc2 := (World.cell?_of_block (a := ⟨p, 0, none⟩) (hb.block p hlt)).trans hc
  have HB := Lib.hid hb
  have hp : ¬ p = w.heap.size := by have h : p < w.heap.size := hlt; omega
  have K := (Blk.new w 29 #[.string (mkS a.1), .string (mkS a.2)])
  have k0 := K.cell 0
  simp at k0
  clear hb K hlt
  by_cases h : a.1 = nm
  · have t1 : ((mkS a.1).toList == (mkS nm).toList) = true := by rw [h]; simp
    have HV : Hid (hasNm nm a = true) := decide_eq_true h
    clear h
    generalize mkS a.1 = s1 at *
    generalize mkS nm = s2 at *
    go_enter Tryz.func109, Tryz.ntmps109
    go_wp2_with fail
    go_ret
    exact ⟨by rw [HV.out]; rfl, HB.out⟩
  · have t1 : ((mkS a.1).toList == (mkS nm).toList) = false := str_ne (fun e => h (mkS_inj e))
    have HV : Hid (hasNm nm a = false) := decide_eq_false h
    clear h
    generalize mkS a.1 = s1 at *
    generalize mkS nm = s2 at *
    go_enter Tryz.func109, Tryz.ntmps109
    go_wp2_with fail
    go_ret
    exact ⟨by rw [HV.out]; rfl, HB.out⟩
theorem enter_same : ∀ args w, (callFunc 109 args).run Tryz.prog w = .ok (.enter 109 args) w := enters_of Tryz.func109 (by kernel_rfl) rfl
set_option maxHeartbeats 2000000 in
set_option maxRecDepth 100000 in
theorem idxA_any (nm : Bs) (p : Nat) (l : Al) (A : Option Addr) (c : Nat) (w0 : World) (hA : AlAt w0 w0.heap.size A l) (hl : l.length ≤ c) (hcm : c ≤ maxLen) (hc : w0.cell? ⟨p, 0, none⟩ = some (.string (mkS nm))) :
    Calls Tryz.prog 146 #[.slice A l.length c, .func (.func 109) #[] #[.pointer (some ⟨p, 0, none⟩)]] w0 fun e w' => (∃ n : Int, decide (0 ≤ n) = l.any (hasNm nm) ∧ e = .returned (.int .i64 n)) ∧ Below w0.heap.size w0 w' := by
  unfold maxLen at hcm
  have ef := enter_same
  rcases Nat.eq_zero_or_pos l.length with h0 | h0
  · obtain rfl := List.eq_nil_of_length_eq_zero h0
    clear hA h0
    go_enter Tryz.func146, Tryz.ntmps146
    go_wp2_with fail
    go_loop [8] (fun i => i = .int .i64 0) (fun i => 0)
    case atStart => rfl
    case round =>
      subst hrel
      go_wp2_with fail
      go_ret
      exact ⟨⟨-1, by decide, rfl⟩, Below.refl _ _⟩
  obtain ⟨b, o, rfl, hblt, hP⟩ := hA h0
  have HA : Hid (∀ (k : Nat) (hk : k < l.length), w0.cell? ⟨b, o + k * 2, none⟩ = some (.string (mkS (l[k]'hk).1)) ∧ w0.cell? ⟨b, o + k * 2 + 1, none⟩ = some (.string (mkS (l[k]'hk).2))) := fun k hk => hP k _ (List.getElem?_eq_getElem hk)
  have HC := Lib.hid hc
  have hplt := cell_lt hc
  clear hA hP hc
  go_enter Tryz.func146, Tryz.ntmps146
  go_wp2_with fail
  go_loopw [8] (fun i wx => ∃ k : Nat, k ≤ l.length ∧ i = .int .i64 (k : Int) ∧ Hid (∀ a ∈ l.take k, hasNm nm a = false) ∧ Hid (Below w0.heap.size w0 wx)) (fun i _ => l.length - (intOf i).toNat)
  case atStart => exact ⟨0, Nat.zero_le _, rfl, show ∀ a ∈ l.take 0, hasNm nm a = false from by simp, Below.refl _ _⟩
  case round =>
    obtain ⟨k, hk, rfl, hall, hb⟩ := hrel
    by_cases hlt : k < l.length
    · have hCk := HA.out k hlt
      have c0 := (World.cell?_of_block (hb.out.block b hblt)).trans hCk.1
      have c1 := (World.cell?_of_block (hb.out.block b hblt)).trans hCk.2
      have C := Lib.hid (same_any nm l[k] p wr ((World.cell?_of_block (hb.out.block p hplt)).trans HC.out))
      have hz := hb.out.size
      have HT : Hid (hasNm nm l[k] = true → l.any (hasNm nm) = true) := fun h => List.any_eq_true.2 ⟨_, List.getElem_mem hlt, h⟩
      have HF : Hid (hasNm nm l[k] = false → ∀ a ∈ l.take (k + 1), hasNm nm a = false) := fun h => all_take hall.out (List.getElem?_eq_getElem hlt) h
      clear hCk hall
      generalize hasNm nm l[k] = bb at *
      generalize mkS (l[k]'hlt).1 = s1 at *
      generalize mkS (l[k]'hlt).2 = s2 at *
      go_wp2_with fail
      refine C.out.mono ?_
      rintro e w1 ⟨rfl, hb1⟩
      have HB : Hid (Below w0.heap.size w0 w1) := hb.out.trans (hb1.mono hz)
      clear hb1 hb C c0 c1
      cases bb with
      | false =>
        have HN := Lib.hid (HF.out rfl)
        clear HF HT
        go_wp2_with fail
        go_roundw
        case rel => exact ⟨k + 1, by omega, by go_num, HN, HB⟩
        case measure => simp [intOf]; omega
      | true =>
        have HN := Lib.hid (HT.out rfl)
        clear HF HT
        go_wp2_with fail
        go_ret
        exact ⟨⟨k, by rw [HN.out]; simp, rfl⟩, HB.out⟩
    · have HN : Hid (l.any (hasNm nm) = false) := by
        have := hall.out
        rw [List.take_of_length_le (by omega)] at this
        show l.any _ = false
        rw [List.any_eq_false]
        intro a ha
        rw [this a ha]; decide
      clear hall
      go_wp2_with fail
      go_ret
      exact ⟨⟨-1, by rw [HN.out]; decide, rfl⟩, hb.out⟩
set_option maxHeartbeats 1000000 in
set_option maxRecDepth 100000 in
theorem hasA_any (nm : Bs) (p : Nat) (l : Al) (A : Option Addr) (c : Nat) (w0 : World) (hA : AlAt w0 w0.heap.size A l) (hl : l.length ≤ c) (hcm : c ≤ maxLen) (hc : w0.cell? ⟨p, 0, none⟩ = some (.string (mkS nm))) :
    Calls Tryz.prog 108 #[.slice A l.length c, .func (.func 109) #[] #[.pointer (some ⟨p, 0, none⟩)]] w0 fun e w' => e = .returned (.bool (l.any (hasNm nm))) ∧ Below w0.heap.size w0 w' := by
  have C := Lib.hid (idxA_any nm p l A c w0 hA hl hcm hc)
  clear hA hc
  generalize l.any (hasNm nm) = ans at *
  go_enter Tryz.func108, Tryz.ntmps108
  go_wp2_with fail
  refine C.out.mono ?_
  rintro e w1 ⟨⟨n, hn, rfl⟩, hb1⟩
  have HB := Lib.hid hb1
  have HN := Lib.hid hn
  clear hb1 hn C
  go_wp2_with fail
  go_ret
  exact ⟨ret_bool HN.out, HB.out⟩
end Go.Proofs.YtoifibnmincodaaGreatDoor
