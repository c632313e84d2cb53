/- The contracts of the document's lists: chandlerref01.Sort, Union, Meet, Minus. -/
import Derived.Test.YthgagobdkcikiaaDoorIListsW
namespace Go.Proofs.YthgagobdkcikiaaDoor.Ids
set_option linter.unusedSimpArgs false
set_option linter.unusedVariables false
open Go.RowKit

theorem tw_mem {p : Int → Bool} : ∀ {xs : List Int} {y : Int}, y ∈ xs.takeWhile p → p y = true
  | [], _, h => by simp at h
  | x :: xs, y, h => by
    rw [List.takeWhile_cons] at h
    split at h
    · rcases List.mem_cons.1 h with rfl | h
      · assumption
      · exact tw_mem h
    · cases h
theorem dw_head {p : Int → Bool} : ∀ {xs : List Int} {z : Int} {r : List Int}, xs.dropWhile p = z :: r → p z = false
  | [], _, _, h => by simp at h
  | x :: xs, z, r, h => by
    rw [List.dropWhile_cons] at h
    split at h
    · exact dw_head h
    · rename_i hp
      injection h with h1 _
      subst h1
      simpa using hp

theorem pw_tw {x : Int} {xs : List Int} (h : xs.Pairwise (· < ·)) : (put1 xs x).Pairwise (· < ·) ∧ ∀ z, z ∈ put1 xs x ↔ (z = x ∨ z ∈ xs) := by
  have h1 : ∀ y ∈ xs.takeWhile (· < x), y < x := fun y hy => by
    have := tw_mem hy
    simpa using this
  have hsplit : xs = xs.takeWhile (· < x) ++ xs.dropWhile (· < x) := (List.takeWhile_append_dropWhile).symm
  have hdrop : xs.drop (xs.takeWhile (· < x)).length = xs.dropWhile (· < x) := by
    conv => lhs; rw [hsplit]
    conv => lhs; arg 1; rw [← hsplit]
    exact List.drop_left' rfl
  have hget : xs[(xs.takeWhile (· < x)).length]? = (xs.dropWhile (· < x))[0]? := by
    rw [← hdrop, List.getElem?_drop]; rfl
  have hpw := h
  rw [hsplit] at hpw
  obtain ⟨p1, p2, p3⟩ := List.pairwise_append.1 hpw
  have hhead : ∀ y, (xs.dropWhile (· < x))[0]? = some y → ¬ y < x := fun y hy => by
    cases hd : xs.dropWhile (· < x) with
    | nil => rw [hd] at hy; simp at hy
    | cons z r =>
      rw [hd] at hy
      have hz : z = y := by simpa using hy
      subst hz
      have := dw_head hd
      simpa using this
  unfold put1
  rw [hget, hdrop]
  by_cases hx : (xs.dropWhile (· < x))[0]? = some x
  · rw [if_pos hx]
    refine ⟨h, fun z => ⟨.inr, ?_⟩⟩
    rintro (rfl | hz)
    · rw [hsplit]
      exact List.mem_append_right _ (List.mem_of_getElem? hx)
    · exact hz
  · rw [if_neg hx]
    have hbig : ∀ y ∈ xs.dropWhile (· < x), x < y := by
      cases hd : xs.dropWhile (· < x) with
      | nil => intro y hy; cases hy
      | cons z r =>
        rw [hd] at hhead hx p2
        have hz := hhead z rfl
        have hzx : z ≠ x := fun e => hx (by rw [e]; rfl)
        intro y hy
        rcases List.mem_cons.1 hy with rfl | hy
        · omega
        · have := (List.pairwise_cons.1 p2).1 y hy; omega
    refine ⟨List.pairwise_append.2 ⟨p1, List.pairwise_append.2 ⟨by simp, p2, fun a ha b hb => by rw [List.mem_singleton.1 ha]; exact hbig b hb⟩, fun a ha b hb => ?_⟩, fun z => ?_⟩
    · rcases List.mem_append.1 hb with hb | hb
      · rw [List.mem_singleton.1 hb]; exact h1 a ha
      · have := h1 a ha; have := hbig b hb; omega
    · constructor
      · intro hz
        rcases List.mem_append.1 hz with hz | hz
        · right; rw [hsplit]; exact List.mem_append_left _ hz
        · rcases List.mem_append.1 hz with hz | hz
          · left; exact List.mem_singleton.1 hz
          · right; rw [hsplit]; exact List.mem_append_right _ hz
      · rintro (rfl | hz)
        · simp
        · rw [hsplit] at hz
          rcases List.mem_append.1 hz with hz | hz
          · exact List.mem_append_left _ hz
          · exact List.mem_append_right _ (List.mem_append_right _ hz)

/-- Put one behind the other into the empty list. -/
def rs (l : List Int) : List Int := l.foldl put1 []
theorem rs_snoc (l : List Int) (x : Int) : rs (l ++ [x]) = put1 (rs l) x := by simp [rs, List.foldl_append]
theorem foldl_rise : ∀ (l acc : List Int), acc.Pairwise (· < ·) → (l.foldl put1 acc).Pairwise (· < ·) ∧ ∀ z, z ∈ l.foldl put1 acc ↔ (z ∈ l ∨ z ∈ acc)
  | [], acc, h => ⟨h, by simp⟩
  | x :: l, acc, h => by
    obtain ⟨h1, h2⟩ := foldl_rise l (put1 acc x) (pw_tw h).1
    refine ⟨h1, fun z => ?_⟩
    rw [List.foldl_cons, h2, (pw_tw h).2, List.mem_cons]
    constructor
    · rintro (h | h | h)
      · exact .inl (.inr h)
      · exact .inl (.inl h)
      · exact .inr h
    · rintro ((h | h) | h)
      · exact .inr (.inl h)
      · exact .inl h
      · exact .inr (.inr h)
theorem rs_srt (l : List Int) : rs l = srt l :=
  rise_ext _ _ (foldl_rise l [] List.Pairwise.nil).1 (srt_rise l) fun z => by rw [srt_mem]; show z ∈ l.foldl put1 [] ↔ _; rw [(foldl_rise l [] List.Pairwise.nil).2]; simp
theorem rs_len (l : List Int) : (rs l).length ≤ l.length := by rw [rs_srt]; exact srt_len l

end Go.Proofs.YthgagobdkcikiaaDoor.Ids
