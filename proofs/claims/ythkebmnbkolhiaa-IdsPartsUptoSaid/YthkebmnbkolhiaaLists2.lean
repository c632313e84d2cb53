/- The contracts of the document's lists: chandlerref01.Sort, Union, Meet, Minus. -/
import Derived.Test.YthkebmnbkolhiaaListsW
namespace Go.Proofs.Ythkebmnbkolhiaa
open Go.RowKit

theorem tw_mem {p : Int → Bool} : ∀ {xs : List Int} {y : Int}, y ∈ xs.takeWhile p → p y = true
  | [], _, h => by simp at h
  | x :: xs, y, h => by
    rw [List.takeWhile_cons] at h
    split at h
    · rcases List.mem_cons.1 h with rfl | h
      · assumption
      · exact tw_mem h
    · cases h
theorem dw_head {p : Int → Bool} : ∀ {xs : List Int} {z : Int} {r : List Int}, xs.dropWhile p = z :: r → p z = false
  | [], _, _, h => by simp at h
  | x :: xs, z, r, h => by
    rw [List.dropWhile_cons] at h
    split at h
    · exact dw_head h
    · rename_i hp
      injection h with h1 _
      subst h1
      simpa using hp

theorem pw_tw {x : Int} {xs : List Int} (h : xs.Pairwise (· < ·)) : (put1 xs x).Pairwise (· < ·) ∧ ∀ z, z ∈ put1 xs x ↔ (z = x ∨ z ∈ xs) := by
  have h1 : ∀ y ∈ xs.takeWhile (· < x), y < x := fun y hy => by
    have := tw_mem hy
    simpa using this
  have hsplit : xs = xs.takeWhile (· < x) ++ xs.dropWhile (· < x) := (List.takeWhile_append_dropWhile).symm
  have hdrop : xs.drop (xs.takeWhile (· < x)).length = xs.dropWhile (· < x) := by
    conv => lhs; rw [hsplit]
    conv => lhs; arg 1; rw [← hsplit]
    exact List.drop_left' rfl
  have hget : xs[(xs.takeWhile (· < x)).length]? = (xs.dropWhile (· < x))[0]? := by
    rw [← hdrop, List.getElem?_drop]; rfl
  have hpw := h
  rw [hsplit] at hpw
  obtain ⟨p1, p2, p3⟩ := List.pairwise_append.1 hpw
  have hhead : ∀ y, (xs.dropWhile (· < x))[0]? = some y → ¬ y < x := fun y hy => by
    cases hd : xs.dropWhile (· < x) with
    | nil => rw [hd] at hy; simp at hy
    | cons z r =>
      rw [hd] at hy
      have hz : z = y := by simpa using hy
      subst hz
      have := dw_head hd
      simpa using this
  unfold put1
  rw [hget, hdrop]
  by_cases hx : (xs.dropWhile (· < x))[0]? = some x
  · rw [if_pos hx]
    refine ⟨h, fun z => ⟨.inr, ?_⟩⟩
    rintro (rfl | hz)
    · rw [hsplit]
      exact List.mem_append_right _ (List.mem_of_getElem? hx)
    · exact hz
  · rw [if_neg hx]
    have hbig : ∀ y ∈ xs.dropWhile (· < x), x < y := by
      cases hd : xs.dropWhile (· < x) with
      | nil => intro y hy; cases hy
      | cons z r =>
        rw [hd] at hhead hx p2
        have hz := hhead z rfl
        have hzx : z ≠ x := fun e => hx (by rw [e]; rfl)
        intro y hy
        rcases List.mem_cons.1 hy with rfl | hy
        · omega
        · have := (List.pairwise_cons.1 p2).1 y hy; omega
    refine ⟨List.pairwise_append.2 ⟨p1, List.pairwise_append.2 ⟨by simp, p2, fun a ha b hb => by rw [List.mem_singleton.1 ha]; exact hbig b hb⟩, fun a ha b hb => ?_⟩, fun z => ?_⟩
    · rcases List.mem_append.1 hb with hb | hb
      · rw [List.mem_singleton.1 hb]; exact h1 a ha
      · have := h1 a ha; have := hbig b hb; omega
    · constructor
      · intro hz
        rcases List.mem_append.1 hz with hz | hz
        · right; rw [hsplit]; exact List.mem_append_left _ hz
        · rcases List.mem_append.1 hz with hz | hz
          · left; exact List.mem_singleton.1 hz
          · right; rw [hsplit]; exact List.mem_append_right _ hz
      · rintro (rfl | hz)
        · simp
        · rw [hsplit] at hz
          rcases List.mem_append.1 hz with hz | hz
          · exact List.mem_append_left _ hz
          · exact List.mem_append_right _ (List.mem_append_right _ hz)

/-- Put one behind the other into the empty list. -/
def rs (l : List Int) : List Int := l.foldl put1 []
theorem rs_snoc (l : List Int) (x : Int) : rs (l ++ [x]) = put1 (rs l) x := by simp [rs, List.foldl_append]
theorem foldl_rise : ∀ (l acc : List Int), acc.Pairwise (· < ·) → (l.foldl put1 acc).Pairwise (· < ·) ∧ ∀ z, z ∈ l.foldl put1 acc ↔ (z ∈ l ∨ z ∈ acc)
  | [], acc, h => ⟨h, by simp⟩
  | x :: l, acc, h => by
    obtain ⟨h1, h2⟩ := foldl_rise l (put1 acc x) (pw_tw h).1
    refine ⟨h1, fun z => ?_⟩
    rw [List.foldl_cons, h2, (pw_tw h).2, List.mem_cons]
    constructor
    · rintro (h | h | h)
      · exact .inl (.inr h)
      · exact .inl (.inl h)
      · exact .inr h
    · rintro ((h | h) | h)
      · exact .inr (.inl h)
      · exact .inl h
      · exact .inr (.inr h)
theorem rs_srt (l : List Int) : rs l = srt l :=
  rise_ext _ _ (foldl_rise l [] List.Pairwise.nil).1 (srt_rise l) fun z => by rw [srt_mem]; show z ∈ l.foldl put1 [] ↔ _; rw [(foldl_rise l [] List.Pairwise.nil).2]; simp
theorem rs_len (l : List Int) : (rs l).length ≤ l.length := by rw [rs_srt]; exact srt_len l

set_option maxHeartbeats 800000 in
theorem rsort_any (A : Option Addr) (c B n : Nat) (xs : List Int) (w : World) (hl : xs.length = n) (hn : n < 1048576 * 1048576) (hB : B ≤ w.heap.size) (hr : Rd w B A (i64s xs)) :
    Calls Try.prog 12 #[.slice A n c] w (Lst w (srt xs)) := by
  have HL := Lib.hid hl
  have HR := Lib.hid hr
  clear hl hr
  go_enter Try.func12, Try.ntmps12
  go_wp2
  go_loopw [3, 4] (fun v i wr => ∃ (k : Nat) (A' : Option Addr) (m c' : Nat), k ≤ n ∧ i = .int .i64 (k : Int) ∧ v = .slice A' m c' ∧ m ≤ c' ∧ c' ≤ maxLen ∧ m ≤ k ∧ Hid ((rs (xs.take k)).length = m) ∧ Hid (Rd wr wr.heap.size A' (i64s (rs (xs.take k)))) ∧ Below w.heap.size w wr) (fun _ i _ => n - (intOf i).toNat)
  case atStart => exact ⟨0, none, 0, 0, by omega, rfl, rfl, Nat.le_refl _, by simp [maxLen], Nat.le_refl _, by show (rs []).length = 0; rfl, by show Rd _ _ _ (i64s (rs [])); exact Rd.nil, Below.refl _ _⟩
  case round =>
    obtain ⟨k, A', m, c', hk, rfl, rfl, hmc, hcm, hmk, hm, hrd, hb⟩ := hrel
    have hs := hb.size
    by_cases hlt : k < n
    · have hk1 : k < xs.length := by rw [HL.out]; exact hlt
      have hlt' : (k : Int) < (n : Int) := by omega
      obtain ⟨b, o, rfl, _, hc⟩ := (HR.out.below hb hB) k (.int .i64 (xs[k]'hk1)) (by simp [i64s, List.getElem?_eq_getElem hk1])
      have htk : xs.take (k + 1) = xs.take k ++ [xs[k]'hk1] := (List.take_append_getElem hk1).symm
      generalize xs[k]'hk1 = x at hc htk
      have C := put1_any A' c' m x (rs (xs.take k)) wr hm.out (by omega) hmc hcm hrd.out
      rw [← rs_snoc, ← htk] at C
      have hle := rs_len (xs.take (k + 1))
      have hle2 : (xs.take (k + 1)).length ≤ k + 1 := List.length_take_le _ _
      have C := Lib.hid C
      have HLE := Lib.hid (Nat.le_trans hle hle2)
      clear htk hle hle2 hk1 hm hrd
      generalize hLL : rs (xs.take (k + 1)) = L at *
      have HEQ := Lib.hid hLL
      clear hLL
      go_wp2_with fail
      refine C.out.mono ?_
      rintro e w2 ⟨A2, c2, rfl, h1, h2, h3, h4⟩
      clear C
      have HR2 := Lib.hid h3
      have hb2 := hb.trans (h4.mono hs)
      clear h3 h4
      go_wp2_with fail
      go_roundw
      case rel => go_light; exact ⟨k + 1, A2, L.length, c2, by omega, by go_num, rfl, h1, h2, HLE.out, by rw [HEQ.out]; exact rfl, by rw [HEQ.out]; exact HR2.out, hb2⟩
      case measure => go_light; simp only [intOf]; omega
    · have hlt' : ¬ (k : Int) < (n : Int) := by omega
      go_wp2
      go_ret
      have e : xs.take k = xs := List.take_of_length_le (by have := HL.out; omega)
      rw [e, rs_srt] at hm hrd
      exact ⟨A', c', by rw [hm.out]; rfl, by rw [hm.out]; exact hmc, hcm, hrd.out, hb⟩
end Go.Proofs.Ythkebmnbkolhiaa
