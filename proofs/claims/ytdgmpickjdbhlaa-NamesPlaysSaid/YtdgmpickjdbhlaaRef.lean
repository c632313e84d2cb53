/- The document's table of names in memory: New, known, Find, Add, Relate. -/
import Derived.Test.YtdgmpickjdbhlaaStay
namespace Go.Proofs.Ytdgmpickjdbhlaa
open Go.RowKit

structure RTabOf (w : World) (bm : Nat) (vn vr : Value) (l : List ByteArray) (r : List Cmp) : Prop where
  blk : Blk w bm 35 #[vn, vr]
  names : w.ownsRow 0 9 1 vn l.length (l.map .string)
  rels : w.ownsRow 0 50 3 vr r.length (cells3 r)
def rfoot (bm : Nat) (vn vr : Value) : List Nat := bm :: (vn.ownBlock.toList ++ vr.ownBlock.toList)
def RTab (w : World) (F : List Nat) (bm : Nat) (l : List ByteArray) (r : List Cmp) : Prop := ∃ vn vr, RTabOf w bm vn vr l r ∧ F = rfoot bm vn vr
theorem RTab.turned {w w' : World} {F G : List Nat} {bm : Nat} {l : List ByteArray} {r : List Cmp} (h : RTab w F bm l r) (ht : Turned G w w') (ha : Apart F G) : RTab w' F bm l r := by
  obtain ⟨vn, vr, hT, rfl⟩ := h
  exact ⟨vn, vr, ⟨hT.blk.turned ht (ha _ (by simp [rfoot])), own_turned hT.names ht fun k hk => ha k (by simp [rfoot, hk]), own_turned hT.rels ht fun k hk => ha k (by simp [rfoot, hk])⟩, rfl⟩
theorem RTab.lt {w : World} {F : List Nat} {bm : Nat} {l : List ByteArray} {r : List Cmp} (h : RTab w F bm l r) : ∀ k, k ∈ F → k < w.heap.size := by
  obtain ⟨vn, vr, hT, rfl⟩ := h
  intro k hk
  simp only [rfoot, List.mem_cons, List.mem_append, Option.mem_toList] at hk
  rcases hk with rfl | hk | hk
  · exact hT.blk.lt
  · exact own_lt hT.names hk
  · exact own_lt hT.rels hk
def RPost (w : World) (F : List Nat) (bm : Nat) (l : List ByteArray) (r : List Cmp) (v : Value) (e : Ending) (w' : World) : Prop :=
  e = .returned v ∧ ∃ F', RTab w' F' bm l r ∧ Turned F w w' ∧ Fresh w F F'
def RNewPost (w : World) (e : Ending) (w' : World) : Prop := ∃ bm F, e = .returned (.pointer (some ⟨bm, 0, none⟩)) ∧ RTab w' F bm [⟨#[]⟩] [] ∧ Below w.heap.size w w' ∧ ∀ k, k ∈ F → w.heap.size ≤ k

set_option maxRecDepth 100000 in
theorem rnew_any (w : World) : Calls Try.prog 10 #[] w (RNewPost w) := by
  go_enter Try.func10, Try.ntmps10
  go_wp2_with fail
  go_ret
  refine ⟨_, _, rfl, ⟨.slice (some ⟨w.heap.size, 0, none⟩) 1 1, .slice none 0 0, ⟨Blk.new' (by simp), ?_, World.ownsRow_nil _ _ _ _⟩, rfl⟩, ((Below.refl _ _).alloc (Nat.le_refl _) _).alloc (by simp) _, ?_⟩
  · refine World.ownsRow.alloc ?_ _
    exact ⟨rfl, .inr ⟨w.heap.size, 1, _, rfl, Nat.zero_le _, heap_alloc_new w _, Nat.le_refl _, by simp [maxLen], rfl, rfl⟩⟩
  · intro k hk
    simp [rfoot, Value.ownBlock] at hk
    omega

set_option maxRecDepth 100000 in
theorem known_any (w : World) (F : List Nat) (bm : Nat) (l : List ByteArray) (r : List Cmp) (n : Int) (hfew : l.length ≤ 5000) (h : RTab w F bm l r) :
    Calls Try.prog 24 #[.pointer (some ⟨bm, 0, none⟩), .int .i64 n] w fun e w' => e = .returned (.bool (hasB l n)) ∧ w = w' := by
  obtain ⟨vn, vr, hT, rfl⟩ := h
  obtain ⟨An, cn, rfl, hn1, hn2⟩ := own_form' hT.names
  have c0 : w.cell? ⟨bm, 0, none⟩ = some (.slice An l.length cn) := hT.blk.cell 0
  clear hT
  by_cases h0 : 0 ≤ n
  · by_cases h1 : n < (l.length : Int)
    · have H := Lib.hid (hasB_yes h0 h1)
      go_enter Try.func24, Try.ntmps24
      go_wp2_with fail
      go_ret
      exact ⟨by rw [H.out]; rfl, rfl⟩
    · have H := Lib.hid (hasB_no (l := l) (n := n) (.inr (by omega)))
      have h1' : decide (n < (l.length : Int)) = false := by simp; omega
      go_enter Try.func24, Try.ntmps24
      go_wp2_with fail
      go_ret
      exact ⟨by rw [H.out]; rfl, rfl⟩
  · have H := Lib.hid (hasB_no (l := l) (n := n) (.inl (by omega)))
    have h0' : decide (0 ≤ n) = false := by simp; omega
    go_enter Try.func24, Try.ntmps24
    go_wp2_with fail
    go_ret
    exact ⟨by rw [H.out]; rfl, rfl⟩

set_option maxHeartbeats 1000000 in
set_option maxRecDepth 100000 in
theorem rfind_any (w : World) (F : List Nat) (bm : Nat) (l : List ByteArray) (r : List Cmp) (s : ByteArray) (hfew : l.length ≤ 5000) (h : RTab w F bm l r) :
    Calls Try.prog 20 #[.pointer (some ⟨bm, 0, none⟩), .string s] w fun e w' => e = .returned (.tuple #[.int .i64 (findId l s), .bool (ix l s).isSome]) ∧ w = w' := by
  obtain ⟨vn, vr, hT, rfl⟩ := h
  obtain ⟨An, cn, rfl, hn1, hn2⟩ := own_form' hT.names
  have c0 : w.cell? ⟨bm, 0, none⟩ = some (.slice An l.length cn) := hT.blk.cell 0
  have HN := Lib.hid hT.names
  clear hT
  go_enter Try.func20, Try.ntmps20
  go_wp2_with fail
  go_loop [6] (fun i => ∃ k : Nat, k ≤ l.length ∧ i = .int .i64 (k : Int) ∧ Hid (∀ j x, j < k → l[j]? = some x → x ≠ s)) (fun i => l.length - (intOf i).toNat)
  case atStart => exact ⟨0, by omega, rfl, fun j x hj => by omega⟩
  case round =>
    obtain ⟨k, hk, rfl, hno⟩ := hrel
    by_cases hlt : k < l.length
    · have hlt' : (k : Int) < (l.length : Int) := by omega
      obtain ⟨x, hx⟩ : ∃ x, l[k]? = some x := ⟨_, List.getElem?_eq_getElem hlt⟩
      obtain ⟨b, rfl, hc⟩ := own_at_ HN.out (k := k) (u := .string x) (by simp [hx])
      have HX := Lib.hid hx
      clear hx
      by_cases he : x = s
      · subst he
        have HI := Lib.hid (ix_first HX.out hno.out)
        go_wp2_with fail
        go_ret2
        exact ⟨by rw [findId, ixI, HI.out]; rfl, rfl⟩
      · have hne := str_ne he
        have HE := Lib.hid he
        clear he
        go_wp2_with fail
        go_round
        case rel =>
          go_light
          refine ⟨k + 1, by omega, by go_num, fun j y hj hy => ?_⟩
          by_cases hjk : j < k
          · exact hno.out j y hjk hy
          · obtain rfl : j = k := by omega
            have := HX.out
            rw [hy] at this
            injection this with this
            rw [this]
            exact HE.out
        case measure => go_light; simp only [intOf]; omega
    · have hlt' : ¬ (k : Int) < (l.length : Int) := by omega
      obtain rfl : l.length = k := by omega
      have HI := Lib.hid (ix_absent hno.out)
      go_wp2_with fail
      go_ret2
      exact ⟨by rw [findId, ixI, HI.out]; rfl, rfl⟩
end Go.Proofs.Ytdgmpickjdbhlaa
