/- What the bound of an upto statement gives; lists of texts and of bools among the arguments. -/
import Derived.Test.YtfnfiaonaeopkaaDoorText
import Derived.Deep.Grids
namespace Go.Proofs.YtfnfiaonaeopkaaDoor
set_option linter.unusedSimpArgs false
set_option linter.unusedVariables false
open Go.RowKit Go.ChangeShapes Go.WideShapes

theorem bulk_one {H : Type} (d : DataW H) : 1 ≤ Rows.uptoBulk d := by
  cases d with
  | lit l => cases l <;> simp [Rows.uptoBulk]
  | nil => simp [Rows.uptoBulk]
  | ptr d => simp [Rows.uptoBulk]
  | slice a b => simp [Rows.uptoBulk]
  | agg l => simp [Rows.uptoBulk]
  | iface t d => simp [Rows.uptoBulk]
  | map l => simp [Rows.uptoBulk]
  | held h => simp [Rows.uptoBulk]
theorem bulk_len {H : Type} : ∀ l : List (DataW H), l.length ≤ Rows.uptoBulkAll l
  | [] => by simp [Rows.uptoBulkAll]
  | d :: l => by have := bulk_one d; have := bulk_len l; simp only [Rows.uptoBulkAll, List.length_cons]; omega
theorem bulk_slice {H : Type} (a b : List (DataW H)) : a.length + b.length ≤ Rows.uptoBulk (.slice a b) := by
  have := bulk_len a; have := bulk_len b; simp only [Rows.uptoBulk]; omega
theorem bulk_elems {H : Type} (a b : List (DataW H)) : Rows.uptoBulkAll a ≤ Rows.uptoBulk (.slice a b) := by
  simp only [Rows.uptoBulk]; omega
theorem bulk_part {H : Type} {d : DataW H} : ∀ {l : List (DataW H)}, d ∈ l → Rows.uptoBulk d ≤ Rows.uptoBulkAll l
  | x :: l, h => by
    simp only [Rows.uptoBulkAll]
    rcases List.mem_cons.1 h with rfl | h
    · omega
    · have := bulk_part h; omega
/-- So long are texts, one more for each. -/
def total (ss : List ByteArray) : Nat := (ss.map fun s => s.size + 1).sum
theorem bulk_strs {H : Type} (ss : List ByteArray) : Rows.uptoBulkAll (strs (H := H) ss) = total ss := by
  induction ss with
  | nil => simp [strs, Rows.uptoBulkAll, total]
  | cons s r ih =>
    show Rows.uptoBulk (DataW.lit (H := H) (.string s.data.toList)) + Rows.uptoBulkAll (strs (H := H) r) = total (s :: r)
    rw [ih]
    have e : total (s :: r) = s.size + 1 + total r := by simp [total]
    rw [e]
    have : Rows.uptoBulk (DataW.lit (H := H) (.string s.data.toList)) = s.data.toList.length + 1 := by simp [Rows.uptoBulk]
    rw [this, size_len]
theorem total_mem {ss : List ByteArray} {s : ByteArray} (h : s ∈ ss) : s.size ≤ total ss := by
  induction ss with
  | nil => cases h
  | cons t r ih =>
    have e : total (t :: r) = t.size + 1 + total r := by simp [total]
    rcases List.mem_cons.1 h with rfl | h
    · omega
    · have := ih h; omega
theorem total_take (ss : List ByteArray) (k : Nat) : total (ss.take k) ≤ total ss := by
  induction ss generalizing k with
  | nil => simp
  | cons t r ih =>
    cases k with
    | zero => simp [total]
    | succ k =>
      have e : total (t :: r) = t.size + 1 + total r := by simp [total]
      have e2 : total ((t :: r).take (k + 1)) = t.size + 1 + total (r.take k) := by simp [total]
      have := ih k
      omega
theorem total_succ {ss : List ByteArray} {k : Nat} {s : ByteArray} (h : ss[k]? = some s) : total (ss.take (k + 1)) = total (ss.take k) + (s.size + 1) := by
  rw [List.take_add_one, h]
  simp [total, List.sum_append]

section
variable {H : Type} {enc : TypeId × Value → H} {P : Program} {W : World} {t e : TypeId} {v : Value} {d : DataW H}
theorem In.bools (h : In enc P W t v d) (ht : P.underlying t = some (.slice e)) (he : P.underlying e = some .bool) (hc : P.cellsOf e = 1) :
    ∃ (A : Option Addr) (n c : Nat) (zs : List Bool), v = .slice A n c ∧ zs.length = n ∧ n ≤ c ∧ c ≤ maxLen ∧ Rd W W.heap.size A (zs.map Value.bool) ∧ Long d n c := by
  obtain ⟨⟨b, hv⟩, ps, fuel, hf⟩ := h
  obtain ⟨A, n, c, rfl⟩ := okWide_slice ht hv
  rcases Go.Deep.open_bools ht he hc hf with ⟨hcs, hx⟩ | ⟨a, len, cap, B, hcs, _, hl, hm, hx, hcell⟩
  · simp [Value.cells] at hcs
    obtain ⟨rfl, rfl, rfl⟩ := hcs
    simp only [Prod.mk.injEq] at hx
    exact ⟨none, 0, 0, [], rfl, rfl, Nat.le_refl _, by simp [maxLen], Rd.nil, .inl ⟨hx.1, rfl, rfl⟩⟩
  · simp [Value.cells] at hcs
    obtain ⟨rfl, rfl, rfl⟩ := hcs
    simp only [Prod.mk.injEq] at hx
    obtain ⟨rfl, _⟩ := hx
    refine ⟨some a, n, c, (List.range n).map B, rfl, by simp, hl, hm, rd_of fun i v hi => ?_, .inr ⟨_, _, rfl, by simp, by simp; omega⟩⟩
    have hlt : i < n := by
      have := (List.getElem?_eq_some_iff.1 hi).1
      simpa using this
    rw [List.getElem?_map, List.getElem?_map, List.getElem?_range hlt] at hi
    simp at hi
    subst hi
    exact hcell i (by omega)
end
end Go.Proofs.YtfnfiaonaeopkaaDoor
