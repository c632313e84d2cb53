/- The contracts of chandlerref01.Union, Meet, Minus. -/
import Derived.Test.YthgagobdkcikiaaDoorILists2
namespace Go.Proofs.YthgagobdkcikiaaDoor.Ids
set_option linter.unusedSimpArgs false
set_option linter.unusedVariables false
open Go.RowKit

def kIn (ys : List Int) (l : List Int) : List Int := l.filter fun z => decide (z ∈ ys)
theorem kIn_snoc_in {ys l : List Int} {x : Int} (h : x ∈ ys) : kIn ys (l ++ [x]) = kIn ys l ++ [x] := by simp [kIn, List.filter_append, h]
theorem kIn_snoc_out {ys l : List Int} {x : Int} (h : ¬ (x ∈ ys)) : kIn ys (l ++ [x]) = kIn ys l := by simp [kIn, List.filter_append]; simpa using h
theorem kIn_len (ys l : List Int) : (kIn ys l).length ≤ l.length := List.length_filter_le _ _

set_option maxHeartbeats 1600000 in
theorem rmeet_any (A A' : Option Addr) (c c' B n m : Nat) (xs ys : List Int) (w : World) (hl : xs.length = n) (hl' : ys.length = m) (hn : n ≤ 1048576) (hm : m ≤ 1048576) (hB : B ≤ w.heap.size) (hr : Rd w B A (i64s xs)) (hr' : Rd w B A' (i64s ys)) :
    Calls Tryd.prog 17 #[.slice A n c, .slice A' m c'] w (Lst w (srt (kIn ys xs))) := by
  have HL := Lib.hid hl
  have HL' := Lib.hid hl'
  have HR := Lib.hid hr
  have HR' := Lib.hid hr'
  clear hl hl' hr hr'
  go_enter Tryd.func17, Tryd.ntmps17
  go_wp2
  go_loopw [5, 6] (fun v i wr => ∃ (k : Nat) (A2 : Option Addr) (q c2 : Nat), k ≤ n ∧ i = .int .i64 (k : Int) ∧ v = .slice A2 q c2 ∧ q ≤ c2 ∧ c2 ≤ maxLen ∧ q ≤ k ∧ Hid ((rs (kIn ys (xs.take k))).length = q) ∧ Hid (Rd wr wr.heap.size A2 (i64s (rs (kIn ys (xs.take k))))) ∧ Below w.heap.size w wr) (fun _ i _ => n - (intOf i).toNat)
  case atStart => exact ⟨0, none, 0, 0, by omega, rfl, rfl, Nat.le_refl _, by simp [maxLen], Nat.le_refl _, by show (rs []).length = 0; rfl, by show Rd _ _ _ (i64s (rs [])); exact Rd.nil, Below.refl _ _⟩
  case round =>
    obtain ⟨k, A2, q, c2, hk, rfl, rfl, hqc, hcm, hqk, hq, hrd, hb⟩ := hrel
    have hs := hb.size
    by_cases hlt : k < n
    · have hk1 : k < xs.length := by rw [HL.out]; exact hlt
      have hlt' : (k : Int) < (n : Int) := by omega
      obtain ⟨b, o, rfl, _, hc⟩ := (HR.out.below hb hB) k (.int .i64 (xs[k]'hk1)) (by simp [i64s, List.getElem?_eq_getElem hk1])
      have htk : xs.take (k + 1) = xs.take k ++ [xs[k]'hk1] := (List.take_append_getElem hk1).symm
      generalize xs[k]'hk1 = x at hc htk
      have CH := has_any A' c' B m x ys wr HL'.out (by omega) (HR'.out.below hb hB)
      by_cases hin : x ∈ ys
      · have C := put1_any A2 c2 q x (rs (kIn ys (xs.take k))) wr hq.out (by omega) hqc hcm hrd.out
        rw [← rs_snoc, ← kIn_snoc_in hin, ← htk] at C
        have hle := Nat.le_trans (rs_len (kIn ys (xs.take (k + 1)))) (kIn_len ys _)
        have hle2 : (xs.take (k + 1)).length ≤ k + 1 := List.length_take_le _ _
        have C := Lib.hid C
        rw [decide_eq_true hin] at CH
        have CH := Lib.hid CH
        have HLE := Lib.hid (Nat.le_trans hle hle2)
        clear htk hle hle2 hk1 hq hrd hin
        generalize hLL : rs (kIn ys (xs.take (k + 1))) = L at *
        have HEQ := Lib.hid hLL
        clear hLL
        go_wp2_with fail
        refine CH.out.mono ?_
        rintro e w1 ⟨rfl, rfl⟩
        clear CH
        go_wp2_with fail
        refine C.out.mono ?_
        rintro e w2 ⟨A3, c3, rfl, h1, h2, h3, h4⟩
        clear C
        have HR2 := Lib.hid h3
        have hb2 := hb.trans (h4.mono hs)
        clear h3 h4
        go_wp2_with fail
        go_roundw
        case rel => go_light; exact ⟨k + 1, A3, L.length, c3, by omega, by go_num, rfl, h1, h2, HLE.out, by rw [HEQ.out]; exact rfl, by rw [HEQ.out]; exact HR2.out, hb2⟩
        case measure => go_light; simp only [intOf]; omega
      · rw [decide_eq_false hin] at CH
        have CH := Lib.hid CH
        have HEQ := Lib.hid (kIn_snoc_out (l := xs.take k) hin)
        have HTK := Lib.hid htk
        clear htk hk1 hin
        go_wp2_with fail
        refine CH.out.mono ?_
        rintro e w1 ⟨rfl, rfl⟩
        clear CH
        go_wp2_with fail
        go_roundw
        case rel => go_light; exact ⟨k + 1, A2, q, c2, by omega, by go_num, rfl, hqc, hcm, by omega, by rw [HTK.out, HEQ.out]; exact hq.out, by rw [HTK.out, HEQ.out]; exact hrd.out, hb⟩
        case measure => go_light; simp only [intOf]; omega
    · have hlt' : ¬ (k : Int) < (n : Int) := by omega
      go_wp2
      go_ret
      have e : xs.take k = xs := List.take_of_length_le (by have := HL.out; omega)
      rw [e, rs_srt] at hq hrd
      exact ⟨A2, c2, by rw [hq.out]; rfl, by rw [hq.out]; exact hqc, hcm, hrd.out, hb⟩

end Go.Proofs.YthgagobdkcikiaaDoor.Ids
