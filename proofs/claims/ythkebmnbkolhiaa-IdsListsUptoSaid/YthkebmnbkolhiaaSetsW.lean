/- The contracts of ids.Sort, Union, Meet and Minus, in the words of the document's lists. -/
import Derived.Test.YthkebmnbkolhiaaMergeUnion
import Derived.Test.YthkebmnbkolhiaaMergeMeet
import Derived.Test.YthkebmnbkolhiaaMergeMinus
namespace Go.Proofs.Ythkebmnbkolhiaa
open Go.RowKit

theorem sort_lst (A : Option Addr) (n c B : Nat) (zs : List Int) (w : World) (hl : zs.length = n) (hn : n * 8 ≤ 140737488355328) (hr : Rd w B A (i64s zs)) :
    Calls Try.prog 11 #[.slice A n c] w (Lst w (srt zs)) :=
  (sort_any A n c B zs w hl hn hr).mono fun e w' ⟨v, he, hown, hb⟩ => by subst he; exact lst_own hown hb
theorem mrg_union (xs ys : List Int) : mrg fUnion xs ys = srt (xs ++ ys) :=
  rise_ext _ _ (mrg_rise _ _ _) (srt_rise _) fun z => by
    rw [mrg_mem, srt_mem, List.mem_append]; unfold Want fUnion
    by_cases h1 : z ∈ xs <;> by_cases h2 : z ∈ ys <;> simp [h1, h2]
theorem mrg_meet (xs ys : List Int) : mrg fMeet xs ys = srt (kIn ys xs) :=
  rise_ext _ _ (mrg_rise _ _ _) (srt_rise _) fun z => by
    rw [mrg_mem, srt_mem]; unfold Want fMeet kIn
    rw [List.mem_filter]
    by_cases h1 : z ∈ xs <;> by_cases h2 : z ∈ ys <;> simp [h1, h2]
theorem mrg_minus (xs ys : List Int) : mrg fMinus xs ys = srt (kOut ys xs) :=
  rise_ext _ _ (mrg_rise _ _ _) (srt_rise _) fun z => by
    rw [mrg_mem, srt_mem]; unfold Want fMinus kOut
    rw [List.mem_filter]
    by_cases h1 : z ∈ xs <;> by_cases h2 : z ∈ ys <;> simp [h1, h2]

theorem iunion_any (A A' : Option Addr) (c c' B n m : Nat) (xs ys : List Int) (w : World) (hl : xs.length = n) (hl' : ys.length = m) (hn : n ≤ 4194304) (hm : m ≤ 4194304) (hB : B ≤ w.heap.size) (hr : Rd w B A (i64s xs)) (hr' : Rd w B A' (i64s ys)) :
    Calls Try.prog 13 #[.slice A n c, .slice A' m c'] w (Lst w (mrg fUnion xs ys)) := by
  have C := Lib.hid (mergeUnion_any A A' c c' B n m xs ys w hl hl' hn hm hB hr hr')
  clear hl hl' hr hr'
  go_enter Try.func13, Try.ntmps13
  go_wp2_with fail
  refine C.out.mono ?_
  rintro e w2 ⟨A2, c2, rfl, h1, h2, h3, h4⟩
  have H3 := Lib.hid h3
  clear h3
  go_wp2_with fail
  go_ret
  exact ⟨A2, c2, rfl, h1, h2, H3.out, h4⟩

theorem imeet_any (A A' : Option Addr) (c c' B n m : Nat) (xs ys : List Int) (w : World) (hl : xs.length = n) (hl' : ys.length = m) (hn : n ≤ 4194304) (hm : m ≤ 4194304) (hB : B ≤ w.heap.size) (hr : Rd w B A (i64s xs)) (hr' : Rd w B A' (i64s ys)) :
    Calls Try.prog 15 #[.slice A n c, .slice A' m c'] w (Lst w (mrg fMeet xs ys)) := by
  have C := Lib.hid (mergeMeet_any A A' c c' B n m xs ys w hl hl' hn hm hB hr hr')
  clear hl hl' hr hr'
  go_enter Try.func15, Try.ntmps15
  go_wp2_with fail
  refine C.out.mono ?_
  rintro e w2 ⟨A2, c2, rfl, h1, h2, h3, h4⟩
  have H3 := Lib.hid h3
  clear h3
  go_wp2_with fail
  go_ret
  exact ⟨A2, c2, rfl, h1, h2, H3.out, h4⟩

theorem iminus_any (A A' : Option Addr) (c c' B n m : Nat) (xs ys : List Int) (w : World) (hl : xs.length = n) (hl' : ys.length = m) (hn : n ≤ 4194304) (hm : m ≤ 4194304) (hB : B ≤ w.heap.size) (hr : Rd w B A (i64s xs)) (hr' : Rd w B A' (i64s ys)) :
    Calls Try.prog 17 #[.slice A n c, .slice A' m c'] w (Lst w (mrg fMinus xs ys)) := by
  have C := Lib.hid (mergeMinus_any A A' c c' B n m xs ys w hl hl' hn hm hB hr hr')
  clear hl hl' hr hr'
  go_enter Try.func17, Try.ntmps17
  go_wp2_with fail
  refine C.out.mono ?_
  rintro e w2 ⟨A2, c2, rfl, h1, h2, h3, h4⟩
  have H3 := Lib.hid h3
  clear h3
  go_wp2_with fail
  go_ret
  exact ⟨A2, c2, rfl, h1, h2, H3.out, h4⟩
end Go.Proofs.Ythkebmnbkolhiaa
