/- What a text goes on with: rpmRank, debRank, and the closures that tell it of two texts. -/
import Derived.Test.YtbfpljlgjpmmmaaDoorOr
namespace Go.Proofs.YtbfpljlgjpmmmaaDoor
set_option linter.unusedSimpArgs false
set_option linter.unusedVariables false
open Go.RowKit

theorem list_nil {s : ByteArray} (h : s.size = 0) : s.data.toList = [] := by
  apply List.eq_nil_of_length_eq_zero
  simpa using h
theorem list_cons {s : ByteArray} (h : 0 < s.size) : s.data.toList = s[0] :: s.data.toList.tail := by
  have h0 := byte_at h
  cases hl : s.data.toList with
  | nil => rw [hl] at h0; cases h0
  | cons b r => rw [hl] at h0; simp at h0; rw [← h0]; rfl
theorem size_len (s : ByteArray) : s.data.toList.length = s.size := by simp
theorem empty_of {s : ByteArray} (h : s.size = 0) : s = ⟨#[]⟩ := by
  obtain ⟨⟨l⟩⟩ := s
  have : l = [] := List.eq_nil_of_length_eq_zero h
  rw [this]
theorem toList_cons {s : ByteArray} (h : 0 < s.size) : s.toList.isEmpty = false := by
  rw [ByteArray.toList_eq, list_cons h]; rfl

set_option maxHeartbeats 400000 in
set_option maxRecDepth 100000 in
theorem rpmRank_any (s : ByteArray) (w : World) :
    Calls Tryd.prog 78 #[.string s] w fun e w' => e = .returned (.int .i64 (rankR s.data.toList)) ∧ w = w' := by
  by_cases h : s.size = 0
  · obtain rfl := empty_of h
    clear h
    go_enter Tryd.func78, Tryd.ntmps78
    go_wp2_with fail
    go_ret
    exact ⟨rfl, rfl⟩
  · have hpos : 0 < s.size := by omega
    have he := toList_cons hpos
    have he2 : s.toList ≠ [] := by intro h; rw [h] at he; cases he
    have HR : Hid (rankR s.data.toList = if (s[0].toNat : Int) = 126 then (0 : Int) else if (s[0].toNat : Int) = 94 then (2 : Int) else if isDg s[0] then (4 : Int) else (3 : Int)) := by
      have e1 : ((s[0].toNat : Int) = 126) = (s[0].toNat = 126) := by apply propext; omega
      have e2 : ((s[0].toNat : Int) = 94) = (s[0].toNat = 94) := by apply propext; omega
      show rankR s.data.toList = _
      rw [list_cons hpos]
      simp only [rankR, e1, e2]
    have CD := Lib.hid (isDigit_any s[0])
    generalize rankR s.data.toList = r at *
    generalize isDg s[0] = d at *
    by_cases h1 : (s[0].toNat : Int) = 126
    · have t1 : ((s[0].toNat : Int) == 126) = true := by simpa using h1
      rw [if_pos h1] at HR
      obtain rfl : r = 0 := HR.out
      clear HR h1 h
      go_enter Tryd.func78, Tryd.ntmps78
      go_wp2_with fail
      go_ret
      exact ⟨rfl, rfl⟩
    · have t1 : ((s[0].toNat : Int) == 126) = false := by simpa using h1
      rw [if_neg h1] at HR
      by_cases h2 : (s[0].toNat : Int) = 94
      · have t2 : ((s[0].toNat : Int) == 94) = true := by simpa using h2
        rw [if_pos h2] at HR
        obtain rfl : r = 2 := HR.out
        clear HR h1 h h2
        go_enter Tryd.func78, Tryd.ntmps78
        go_wp2_with fail
        go_ret
        exact ⟨rfl, rfl⟩
      · have t2 : ((s[0].toNat : Int) == 94) = false := by simpa using h2
        rw [if_neg h2] at HR
        clear h1 h h2
        cases d
        · obtain rfl : r = 3 := HR.out
          clear HR
          go_enter Tryd.func78, Tryd.ntmps78
          go_wp2_with fail
          refine (CD.out _).mono ?_
          rintro e w' ⟨rfl, rfl⟩
          go_wp2_with fail
          go_ret
          exact ⟨rfl, rfl⟩
        · obtain rfl : r = 4 := HR.out
          clear HR
          go_enter Tryd.func78, Tryd.ntmps78
          go_wp2_with fail
          refine (CD.out _).mono ?_
          rintro e w' ⟨rfl, rfl⟩
          go_wp2_with fail
          go_ret
          exact ⟨rfl, rfl⟩

set_option maxHeartbeats 400000 in
set_option maxRecDepth 100000 in
theorem debRank_any (s : ByteArray) (w : World) :
    Calls Tryd.prog 80 #[.string s] w fun e w' => e = .returned (.int .i64 (rankD s.data.toList)) ∧ w = w' := by
  by_cases h : s.size = 0
  · obtain rfl := empty_of h
    clear h
    go_enter Tryd.func80, Tryd.ntmps80
    go_wp2_with fail
    go_ret
    exact ⟨rfl, rfl⟩
  · have hpos : 0 < s.size := by omega
    have he := toList_cons hpos
    have he2 : s.toList ≠ [] := by intro h; rw [h] at he; cases he
    have HR : Hid (rankD s.data.toList = if isDg s[0] then 0 else if (s[0].toNat : Int) = 126 then -1 else if isLt s[0] then (s[0].toNat : Int) else (256 : Int) + (s[0].toNat : Int)) := by
      have e1 : ((s[0].toNat : Int) = 126) = (s[0].toNat = 126) := by apply propext; omega
      show rankD s.data.toList = _
      rw [list_cons hpos]
      simp only [rankD, e1]
    have CD := Lib.hid (isDigit_any s[0])
    have CL := Lib.hid (isLetter_any s[0])
    have hb : (s[0].toNat : Int) ≤ 255 := by have := UInt8.toNat_lt s[0]; omega
    have hb0 : (0 : Int) ≤ (s[0].toNat : Int) := by omega
    generalize rankD s.data.toList = r at *
    generalize isDg s[0] = d at *
    generalize isLt s[0] = l at *
    cases d
    · by_cases h1 : (s[0].toNat : Int) = 126
      · have t1 : ((s[0].toNat : Int) == 126) = true := by simpa using h1
        simp only [Bool.false_eq_true, if_false] at HR
        rw [if_pos h1] at HR
        obtain rfl : r = -1 := HR.out
        clear HR h1 h
        go_enter Tryd.func80, Tryd.ntmps80
        go_wp2_with fail
        refine (CD.out _).mono ?_
        rintro e w' ⟨rfl, rfl⟩
        go_wp2_with fail
        go_ret
        exact ⟨rfl, rfl⟩
      · have t1 : ((s[0].toNat : Int) == 126) = false := by simpa using h1
        simp only [Bool.false_eq_true, if_false] at HR
        rw [if_neg h1] at HR
        clear h1 h
        cases l
        · obtain rfl : r = 256 + (s[0].toNat : Int) := HR.out
          clear HR
          go_enter Tryd.func80, Tryd.ntmps80
          go_wp2_with fail
          refine (CD.out _).mono ?_
          rintro e w' ⟨rfl, rfl⟩
          go_wp2_with fail
          refine (CL.out _).mono ?_
          rintro e w' ⟨rfl, rfl⟩
          go_wp2_with fail
          go_ret
          exact ⟨rfl, rfl⟩
        · obtain rfl : r = (s[0].toNat : Int) := HR.out
          clear HR
          go_enter Tryd.func80, Tryd.ntmps80
          go_wp2_with fail
          refine (CD.out _).mono ?_
          rintro e w' ⟨rfl, rfl⟩
          go_wp2_with fail
          refine (CL.out _).mono ?_
          rintro e w' ⟨rfl, rfl⟩
          go_wp2_with fail
          go_ret
          exact ⟨rfl, rfl⟩
    · simp only [if_true] at HR
      obtain rfl : r = 0 := HR.out
      clear HR h
      go_enter Tryd.func80, Tryd.ntmps80
      go_wp2_with fail
      refine (CD.out _).mono ?_
      rintro e w' ⟨rfl, rfl⟩
      go_wp2_with fail
      go_ret
      exact ⟨rfl, rfl⟩
end Go.Proofs.YtbfpljlgjpmmmaaDoor
