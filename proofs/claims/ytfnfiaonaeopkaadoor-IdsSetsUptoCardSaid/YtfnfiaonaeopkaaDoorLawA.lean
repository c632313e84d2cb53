/- What the law on bits keeps in memory: the bits, the list beside them. -/
import Derived.Test.YtfnfiaonaeopkaaDoorAll
import Derived.Test.YtfnfiaonaeopkaaDoorAwake
import Derived.Test.YtfnfiaonaeopkaaDoorLists3
namespace Go.Proofs.YtfnfiaonaeopkaaDoor
set_option linter.unusedSimpArgs false
set_option linter.unusedVariables false
open Go.RowKit

/-- The list of the numbers that are in. -/
structure Same (ws : Nat → Nat) (l : List Int) : Prop where
  rise : l.Pairwise (· < ·)
  mem : ∀ z : Int, z ∈ l ↔ 0 ≤ z ∧ z ≤ 65535 ∧ isIn ws z.toNat = true
theorem same_all {ws : Nat → Nat} {l : List Int} (h : Same ws l) : (allTo ws 1024).map (fun n : Nat => (n : Int)) = l := by
  refine old.rise_ext _ _ ?_ h.rise fun z => ?_
  · rw [List.pairwise_map]
    exact (allTo_rise ws 1024).imp fun hab => by omega
  · rw [h.mem, List.mem_map]
    constructor
    · rintro ⟨n, hn, rfl⟩
      have := (allTo_mem _ _ _).1 hn
      exact ⟨by omega, by omega, by simpa using this.2⟩
    · rintro ⟨h1, h2, h3⟩
      exact ⟨z.toNat, (allTo_mem _ _ _).2 ⟨by omega, h3⟩, by omega⟩
theorem same_len {ws : Nat → Nat} {l : List Int} (h : Same ws l) : popTo ws 1024 = l.length := by
  rw [← same_all h, List.length_map, allTo_len]
theorem same_le {ws : Nat → Nat} {l : List Int} (h : Same ws l) : l.length ≤ 65536 := by
  have := popTo_le ws 1024
  rw [same_len h] at this
  omega
theorem same_nil : Same (fun _ => 0) [] := ⟨List.Pairwise.nil, fun z => by simp [isIn]⟩
theorem same_put {ws : Nat → Nat} {l : List Int} (h : Same ws l) {k : Nat} (hk : k ≤ 65535) (hi : isIn ws k = false) : Same (flip ws k) (old.put1 l (k : Int)) := by
  obtain ⟨h1, h2⟩ := old.pw_tw (x := (k : Int)) h.rise
  refine ⟨h1, fun z => ?_⟩
  rw [h2, h.mem, flip_in]
  constructor
  · rintro (rfl | ⟨a, b, c⟩)
    · exact ⟨by omega, by omega, by simp [hi]⟩
    · refine ⟨a, b, ?_⟩
      have : z.toNat ≠ k := by rintro rfl; rw [hi] at c; cases c
      rw [c, decide_eq_false this]; rfl
  · rintro ⟨a, b, c⟩
    by_cases hz : z.toNat = k
    · left; omega
    · right
      rw [decide_eq_false hz] at c
      exact ⟨a, b, by simpa using c⟩
theorem same_put_in {ws : Nat → Nat} {l : List Int} (h : Same ws l) {k : Nat} (hk : k ≤ 65535) (hi : isIn ws k = true) : Same ws (old.put1 l (k : Int)) := by
  obtain ⟨h1, h2⟩ := old.pw_tw (x := (k : Int)) h.rise
  refine ⟨h1, fun z => ?_⟩
  rw [h2, h.mem]
  constructor
  · rintro (rfl | hz)
    · exact ⟨by omega, by omega, by simpa using hi⟩
    · exact hz
  · exact .inr
theorem same_out {ws : Nat → Nat} {l : List Int} (h : Same ws l) {k : Nat} (hk : k ≤ 65535) (hi : isIn ws k = true) : Same (flip ws k) (old.srt (old.kOut [(k : Int)] l)) := by
  refine ⟨old.srt_rise _, fun z => ?_⟩
  rw [old.srt_mem]
  unfold old.kOut
  rw [List.mem_filter, h.mem, flip_in]
  constructor
  · rintro ⟨⟨a, b, c⟩, d⟩
    have hz : z.toNat ≠ k := by rintro rfl; simp at d; omega
    exact ⟨a, b, by rw [c, decide_eq_false hz]; rfl⟩
  · rintro ⟨a, b, c⟩
    by_cases hz : z.toNat = k
    · rw [hz, hi, decide_eq_true rfl] at c; cases c
    · rw [decide_eq_false hz] at c
      exact ⟨⟨a, b, by simpa using c⟩, by simp; omega⟩
theorem same_out_not {ws : Nat → Nat} {l : List Int} (h : Same ws l) {k : Nat} (hk : k ≤ 65535) (hi : isIn ws k = false) : Same ws (old.srt (old.kOut [(k : Int)] l)) := by
  refine ⟨old.srt_rise _, fun z => ?_⟩
  rw [old.srt_mem]
  unfold old.kOut
  rw [List.mem_filter, h.mem]
  constructor
  · exact fun hz => hz.1
  · rintro ⟨a, b, c⟩
    refine ⟨⟨a, b, c⟩, ?_⟩
    have hz : z.toNat ≠ k := by rintro rfl; rw [hi] at c; cases c
    simp; omega
theorem same_has {ws : Nat → Nat} {l : List Int} (h : Same ws l) {k : Nat} (hk : k ≤ 65535) : decide ((k : Int) ∈ l) = isIn ws k := by
  rw [Bool.eq_iff_iff, decide_eq_true_eq, h.mem]
  constructor
  · rintro ⟨_, _, c⟩; simpa using c
  · intro c; exact ⟨by omega, by omega, by simpa using c⟩

/-! Cells of integers stay where cells of others are written. -/
def NoInt (w : World) (k : Nat) : Prop := ∀ o z, w.cell? ⟨k, o, none⟩ ≠ some (.int .i64 z)
theorem rd_turned {w w' : World} {F : List Nat} {B : Nat} {A : Option Addr} {l : List Int} (h : Rd w B A (old.i64s l)) (ht : Turned F w w') (hF : ∀ k ∈ F, NoInt w k) : Rd w' w'.heap.size A (old.i64s l) := fun k v hk => by
  obtain ⟨b, o, rfl, hb, hc⟩ := h k v hk
  have hv : ∃ z, v = .int .i64 z := by
    unfold old.i64s at hk
    rw [List.getElem?_map] at hk
    cases hl : l[k]? with
    | none => rw [hl] at hk; cases hk
    | some z => rw [hl] at hk; injection hk with hk; exact ⟨z, hk.symm⟩
  obtain ⟨z, rfl⟩ := hv
  have hbF : b ∉ F := fun hm => hF b hm _ _ hc
  have hlt : b < w.heap.size := cell_lt hc
  exact ⟨b, o, rfl, Nat.lt_of_lt_of_le hlt ht.size, (World.cell?_of_block (ht.block b hlt hbF)).trans hc⟩
theorem noInt_bits {w : World} {b : Nat} {ws : Nat → Nat} (h : BitsAt w b ws) : NoInt w b := fun o z hc => by
  have := h.blk.cell o
  rw [hc] at this
  by_cases ho : o < 1024
  · rw [cellsW_at _ ho] at this; cases this
  · rw [Array.getElem?_eq_none (by rw [cellsW_size]; omega)] at this; cases this
theorem noInt_one {w : World} {b : Nat} {t : TypeId} {v : Value} (h : Blk w b t #[v]) (hv : ∀ z, v ≠ .int .i64 z) : NoInt w b := fun o z hc => by
  have := h.cell o
  rw [hc] at this
  cases o with
  | zero => injection this with this; exact hv z this.symm
  | succ o => simp at this

/-- The list in its box. -/
def ListAt (w : World) (bl : Nat) (l : List Int) : Prop := ∃ A c, Blk w bl 28 #[.slice A l.length c] ∧ l.length ≤ c ∧ c ≤ maxLen ∧ Rd w w.heap.size A (old.i64s l)
theorem ListAt.turned {w w' : World} {F : List Nat} {bl : Nat} {l : List Int} (h : ListAt w bl l) (ht : Turned F w w') (hbl : bl ∉ F) (hF : ∀ k ∈ F, NoInt w k) : ListAt w' bl l := by
  obtain ⟨A, c, hB, h1, h2, hR⟩ := h
  exact ⟨A, c, hB.turned ht hbl, h1, h2, rd_turned hR ht hF⟩
theorem BitsAt.turned {w w' : World} {F : List Nat} {b : Nat} {ws : Nat → Nat} (h : BitsAt w b ws) (ht : Turned F w w') (hb : b ∉ F) : BitsAt w' b ws := ⟨h.blk.turned ht hb, h.small⟩
end Go.Proofs.YtfnfiaonaeopkaaDoor
