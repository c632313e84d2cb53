/- What is printed is read as the same: pure; the two lines that all laws of jobs begin with. -/
import Derived.Test.YtciogfpejenedaaGreatDoorJbF
namespace Go.Proofs.YtciogfpejenedaaGreatDoor
set_option linter.unusedSimpArgs false
set_option linter.unusedVariables false
open Go.RowKit

theorem jcut_cons (k c : UInt8) (r : List UInt8) : Lib.cut (c :: r) [k] = if c = k then ([], r, true) else (c :: (Lib.cut r [k]).1, (Lib.cut r [k]).2.1, (Lib.cut r [k]).2.2) := by
  have hi : Lib.index (c :: r) [k] = if c = k then 0 else if Lib.index r [k] = -1 then -1 else Lib.index r [k] + 1 := by
    show (if ([k] : List UInt8).isPrefixOf (c :: r) = true then (0 : Int) else if (Lib.index r [k] == -1) = true then -1 else Lib.index r [k] + 1) = _
    by_cases h : c = k
    · subst h
      rw [if_pos rfl, if_pos (by simp [List.isPrefixOf])]
    · rw [if_neg h]
      have h2 : ([k] : List UInt8).isPrefixOf (c :: r) = false := by
        show (k == c && _) = false
        have : (k == c) = false := beq_eq_false_iff_ne.2 (fun e => h e.symm)
        rw [this]
        rfl
      rw [h2]
      simp
  by_cases h : c = k
  · subst h
    rw [if_pos rfl] at hi
    rw [if_pos rfl]
    unfold Lib.cut
    rw [hi]
    rfl
  · rw [if_neg h] at hi ⊢
    have hg := Lib.index_ge r [k]
    unfold Lib.cut
    by_cases h1 : Lib.index r [k] = -1
    · rw [if_pos h1] at hi
      rw [hi, h1]
      rfl
    · rw [if_neg h1] at hi
      have h0 : 0 ≤ Lib.index r [k] := by omega
      rw [hi, if_pos h0, if_pos (by omega)]
      obtain ⟨m, hm⟩ : ∃ m : Nat, Lib.index r [k] = (m : Int) := ⟨(Lib.index r [k]).toNat, by omega⟩
      rw [hm]
      have e1 : ((m : Int) + 1).toNat = m + 1 := by omega
      have e2 : ((m : Int)).toNat = m := by omega
      rw [e1, e2]
      simp
theorem jcut_at (k : UInt8) (u : List UInt8) : ∀ t : List UInt8, (∀ c ∈ t, c ≠ k) → Lib.cut (t ++ k :: u) [k] = (t, u, true)
  | [], _ => by rw [List.nil_append, jcut_cons, if_pos rfl]
  | c :: r, h => by
    rw [List.cons_append, jcut_cons, if_neg (h c (by simp)), jcut_at k u r (fun d hd => h d (List.mem_cons_of_mem _ hd))]
theorem jcut_no (k : UInt8) : ∀ t : List UInt8, (∀ c ∈ t, c ≠ k) → Lib.cut t [k] = (t, [], false)
  | [], _ => rfl
  | c :: r, h => by
    rw [jcut_cons, if_neg (h c (by simp)), jcut_no k r (fun d hd => h d (List.mem_cons_of_mem _ hd))]
theorem kind_words {k : Int} (h : (wordX kindsA k).size ≠ 0) : ∃ l : List UInt8, wordX kindsA k = mkS l ∧ (∀ c ∈ l, c ≠ 32) ∧ firstS kindsA (mkS l) 0 = k := by
  have hk : k = 1 ∨ k = 2 ∨ k = 3 ∨ k = 4 ∨ k = 5 ∨ k = 6 ∨ k = 7 := by
    unfold wordX at h
    split at h
    · by_cases h8 : 8 ≤ k
      · obtain ⟨j, rfl⟩ : ∃ j : Nat, k = ((j + 8 : Nat) : Int) := ⟨k.toNat - 8, by omega⟩
        exact absurd rfl h
      · by_cases h0 : k = 0
        · subst h0
          exact absurd rfl h
        · omega
    · exact absurd rfl h
  rcases hk with rfl | rfl | rfl | rfl | rfl | rfl | rfl
  · exact ⟨kw1, rfl, by decide, by kernel_rfl⟩
  · exact ⟨kw2, rfl, by decide, by kernel_rfl⟩
  · exact ⟨kw3, rfl, by decide, by kernel_rfl⟩
  · exact ⟨kw4, rfl, by decide, by kernel_rfl⟩
  · exact ⟨kw5, rfl, by decide, by kernel_rfl⟩
  · exact ⟨kw6, rfl, by decide, by kernel_rfl⟩
  · exact ⟨kw7, rfl, by decide, by kernel_rfl⟩
theorem how_words {h : Int} {s : ByteArray} (hm : mayMeanX h s = true) : ∃ l : List UInt8, wordX howsA h = mkS l ∧ (∀ c ∈ l, c ≠ 32) ∧ firstS howsA (mkS l) 0 = h := by
  have hk : h = 1 ∨ h = 2 ∨ h = 3 ∨ h = 4 ∨ h = 5 := by
    unfold mayMeanX at hm
    by_cases h1 : h = 1
    · exact .inl h1
    rw [if_neg h1] at hm
    by_cases h2 : h = 2
    · exact .inr (.inl h2)
    rw [if_neg h2] at hm
    by_cases h3 : h = 3
    · exact .inr (.inr (.inl h3))
    rw [if_neg h3] at hm
    by_cases h4 : h = 4
    · exact .inr (.inr (.inr (.inl h4)))
    rw [if_neg h4] at hm
    by_cases h5 : h = 5
    · exact .inr (.inr (.inr (.inr h5)))
    rw [if_neg h5] at hm
    cases hm
  rcases hk with rfl | rfl | rfl | rfl | rfl
  · exact ⟨hw1, rfl, by decide, by kernel_rfl⟩
  · exact ⟨hw2, rfl, by decide, by kernel_rfl⟩
  · exact ⟨hw3, rfl, by decide, by kernel_rfl⟩
  · exact ⟨hw4, rfl, by decide, by kernel_rfl⟩
  · exact ⟨hw5, rfl, by decide, by kernel_rfl⟩
theorem mk_back (s : ByteArray) : mkS s.data.toList = s := rfl
/-- What is printed is read as the same. -/
theorem job_back {k h : Int} {s : ByteArray} (hm : mayX k h s = true) : parseJ (printX k h s).data.toList = some (k, h, s) := by
  have hm0 := hm
  unfold mayX at hm
  rw [Bool.and_eq_true] at hm
  obtain ⟨hk, hm⟩ := hm
  obtain ⟨kl, e1, e2, e3⟩ := kind_words (of_decide_eq_true hk)
  obtain ⟨hl, f1, f2, f3⟩ := how_words hm
  have ht : textJ h s = s := by
    unfold textJ
    by_cases h3 : h = 3
    · rw [if_pos h3]
      unfold mayMeanX at hm
      subst h3
      rw [if_neg (by decide), if_neg (by decide), if_pos rfl, Bool.and_eq_true] at hm
      exact (of_decide_eq_true hm.2).symm
    · rw [if_neg h3]
  have hfin : finJ (mkS (printX k h s).data.toList) k h s = some (k, h, s) := by
    unfold finJ
    rw [if_pos ⟨hm0, .inr (mk_back _).symm⟩]
  by_cases h5 : h = 5
  · have hs : s = ⟨#[]⟩ := by
      unfold mayMeanX at hm
      subst h5
      rw [if_neg (by decide), if_neg (by decide), if_neg (by decide), if_neg (by decide), if_pos rfl] at hm
      exact empty_of (of_decide_eq_true hm)
    have hp : (printX k h s).data.toList = kl ++ 32 :: hl := by
      unfold printX
      rw [e1, f1, if_pos h5]
      simp [mkS]
    have c1 : Lib.cut (printX k h s).data.toList [32] = (kl, hl, true) := by rw [hp]; exact jcut_at 32 hl kl e2
    have c2 : Lib.cut hl [32] = (hl, [], false) := jcut_no 32 hl f2
    have r1 : kindJ (printX k h s).data.toList = k := by unfold kindJ; rw [c1]; exact e3
    have r2 : restJ (printX k h s).data.toList = hl := by unfold restJ; rw [c1]
    have r3 : howJ (printX k h s).data.toList = h := by unfold howJ; rw [r2, c2]; exact f3
    have r4 : tailJ (printX k h s).data.toList = s := by unfold tailJ; rw [r2, c2, hs]; rfl
    unfold parseJ
    rw [r1, r3, r4, ht]
    exact hfin
  · have hp : (printX k h s).data.toList = kl ++ 32 :: (hl ++ 32 :: s.data.toList) := by
      unfold printX
      rw [e1, f1, if_neg h5]
      simp [mkS]
    have c1 : Lib.cut (printX k h s).data.toList [32] = (kl, hl ++ 32 :: s.data.toList, true) := by rw [hp]; exact jcut_at 32 _ kl e2
    have c2 : Lib.cut (hl ++ 32 :: s.data.toList) [32] = (hl, s.data.toList, true) := jcut_at 32 _ hl f2
    have r1 : kindJ (printX k h s).data.toList = k := by unfold kindJ; rw [c1]; exact e3
    have r2 : restJ (printX k h s).data.toList = hl ++ 32 :: s.data.toList := by unfold restJ; rw [c1]
    have r3 : howJ (printX k h s).data.toList = h := by unfold howJ; rw [r2, c2]; exact f3
    have r4 : tailJ (printX k h s).data.toList = s := by unfold tailJ; rw [r2, c2]; exact mk_back s
    unfold parseJ
    rw [r1, r3, r4, ht]
    exact hfin
/-- What is read may be. -/
theorem parse_may {t : List UInt8} {k h : Int} {s : ByteArray} (hp : parseJ t = some (k, h, s)) : mayX k h s = true ∧ s.size ≤ t.length + 5000 := by
  unfold parseJ finJ at hp
  split at hp
  · next hc =>
    injection hp with hp
    injection hp with h1 hp
    injection hp with h2 h3
    rw [← h1, ← h2, ← h3]
    refine ⟨hc.1, ?_⟩
    unfold textJ
    split
    · have := oneX_size (tailJ t); omega
    · have a1 := (cut_len_ t).2
      have a2 := (cut_len_ (restJ t)).2
      unfold tailJ
      rw [mk_len]
      have : (restJ t).length = (Lib.cut t [32]).2.1.length := rfl
      omega
  · cases hp
def wordsF : Nat → Wd → List Wd
  | 0, _ => []
  | n + 1, l => if (cutW l).1 = [] then [] else (cutW l).1 :: wordsF n (cutW l).2
theorem wordsF_eq : ∀ (n : Nat) (l : Wd), l.length < n → wordsF n l = words l
  | 0, l, h => by omega
  | n + 1, l, h => by
    rw [← stream_cut]
    unfold wordsF stream
    split
    · rfl
    · rename_i hne
      rw [wordsF_eq n _ (by have := cutW_lt hne; omega)]
def jwT : Wd := [40, 97, 32, 32, 119, 105, 116, 104, 32, 108, 105, 98, 41]
def jwP : List UInt8 := [40, 97, 32, 119, 105, 116, 104, 32, 108, 105, 98, 41]
def jwD : Dep := node 5 [leaf [97] 0 [], leaf [108, 105, 98] 0 []]
theorem jw_words : words jwT = toks jwD := by rw [← wordsF_eq 40 jwT (by decide)]; decide
theorem jw_wordsP : words jwP = toks jwD := by rw [← wordsF_eq 40 jwP (by decide)]; decide
theorem jw_check : checkN jwD = 0 := by decide +kernel
theorem jw_print : printS jwD = mkS jwP := by
  unfold printS
  rw [if_pos jw_check]
  kernel_rfl
theorem jw_one : oneX (mkS jwT) = mkS jwP := by
  unfold oneX
  rw [show (mkS jwT).data.toList = jwT from rfl, parse_text jw_check jw_words]
  exact (if_pos (by decide)).trans jw_print
theorem jw_oneP : oneX (mkS jwP) = mkS jwP := by
  unfold oneX
  rw [show (mkS jwP).data.toList = jwP from rfl, parse_text jw_check jw_wordsP]
  exact (if_pos (by decide)).trans jw_print
def jbT1 : List UInt8 := [101, 114, 97, 115, 101, 32, 100, 101, 112, 32, 40, 97, 32, 32, 119, 105, 116, 104, 32, 108, 105, 98, 41]
def jbT2 : List UInt8 := [105, 110, 115, 116, 97, 108, 108, 32, 97]
theorem jb_may : mayX 2 3 (mkS jwP) = true := by
  unfold mayX mayMeanX
  rw [if_neg (by decide), if_neg (by decide), if_pos rfl, jw_oneP]
  decide
theorem jb1_is : parseJ jbT1 = some (2, 3, mkS jwP) := by
  have r1 : kindJ jbT1 = 2 := by kernel_rfl
  have r3 : howJ jbT1 = 3 := by kernel_rfl
  have r4 : tailJ jbT1 = mkS jwT := by kernel_rfl
  unfold parseJ
  rw [r1, r3, r4]
  unfold textJ
  rw [if_pos rfl, jw_one]
  unfold finJ
  rw [if_pos ⟨jb_may, .inl rfl⟩]
theorem jb2_is : parseJ jbT2 = none := by
  have r3 : howJ jbT2 = 0 := by kernel_rfl
  unfold parseJ
  rw [r3]
  unfold finJ
  rw [if_neg]
  intro h
  have h := h.1
  unfold mayX mayMeanX at h
  simp at h
theorem jb1_print : printX 2 3 (mkS jwP) = ⟨#[101, 114, 97, 115, 101, 32, 100, 101, 112, 32, 40, 97, 32, 119, 105, 116, 104, 32, 108, 105, 98, 41]⟩ := by kernel_rfl
end Go.Proofs.YtciogfpejenedaaGreatDoor
