/- Which values there are: isValue. -/
import Derived.Test.YthgagobdkcikiaaDoorIdxF
import Derived.Test.YthgagobdkcikiaaDoorStM
namespace Go.Proofs.YthgagobdkcikiaaDoor
set_option linter.unusedSimpArgs false
set_option linter.unusedVariables false
open Go.RowKit

theorem num_cs (a b : Int) : (a = b ∧ (a != b) = false ∧ (a == b) = true) ∨ (a ≠ b ∧ (a != b) = true ∧ (a == b) = false) := by
  by_cases h : a = b
  · exact .inl ⟨h, by simp [h], by simp [h]⟩
  · exact .inr ⟨h, by simpa using h, by simpa using h⟩
theorem str_cs (s : ByteArray) : s = ⟨#[]⟩ ∨ (s ≠ ⟨#[]⟩ ∧ s.size ≠ 0 ∧ s.toList.isEmpty = false ∧ ¬ s.toList = []) := by
  by_cases h : s = ⟨#[]⟩
  · exact .inl h
  · have h0 : s.size ≠ 0 := fun e => h (empty_of e)
    obtain ⟨b1, b2, b3⟩ := blank_of h0
    exact .inr ⟨h, h0, b1, b2⟩
theorem len_cs (l : Nat) : l = 0 ∨ (l ≠ 0 ∧ ((l : Int) == 0) = false ∧ ¬ (l : Int) = 0) := by
  by_cases h : l = 0
  · exact .inl h
  · exact .inr ⟨h, by simpa using h, by omega⟩
set_option maxHeartbeats 1000000 in
set_option maxRecDepth 100000 in
theorem isValue_any (k n : Int) (s : ByteArray) (A : Option Addr) (l c : Nat) (w : World) : Calls Tryd.prog 43 #[.agg #[.int .i64 k, .int .i64 n, .string s, .slice A l c]] w fun e w' => e = .returned (.bool (valB k n s l)) ∧ Below w.heap.size w w' := by
  obtain ⟨x, hx⟩ : ∃ x, x = valB k n s l := ⟨_, rfl⟩
  rw [← hx]
  have HX := Lib.hid hx
  clear hx
  have HB : ∀ o, Below w.heap.size w (w.alloc o) := fun o => (Below.refl _ _).alloc (Nat.le_refl _) _
  have HB2 := Lib.hid HB
  clear HB
  unfold valB at HX
  rcases num_cs k 1 with ⟨rfl, -, -⟩ | ⟨k1, -, k1'⟩
  · rcases str_cs s with rfl | ⟨s1, s2, s3, s4⟩
    · rcases len_cs l with rfl | ⟨l1, l2, l3⟩
      · have HV : Hid (x = true) := HX.out.trans (by simp)
        clear HX
        go_enter Tryd.func43, Tryd.ntmps43
        go_wp2_with fail
        go_ret
        exact ⟨by rw [HV.out]; rfl, HB2.out _⟩
      · have HV : Hid (x = false) := HX.out.trans (by simp [l1])
        clear HX
        go_enter Tryd.func43, Tryd.ntmps43
        go_wp2_with fail
        go_ret
        exact ⟨by rw [HV.out]; first | rfl | (simp [l1, l2, l3]), HB2.out _⟩
    · have HV : Hid (x = false) := HX.out.trans (by simp [s1])
      clear HX
      go_enter Tryd.func43, Tryd.ntmps43
      go_wp2_with fail
      go_ret
      exact ⟨by rw [HV.out]; first | rfl | (simp [s2, s3, s4]), HB2.out _⟩
  rcases num_cs k 2 with ⟨rfl, -, -⟩ | ⟨k2, -, k2'⟩
  · clear k1 k1'
    rcases num_cs n 0 with ⟨rfl, -, -⟩ | ⟨n1, -, n2⟩
    · rcases len_cs l with rfl | ⟨l1, l2, l3⟩
      · have HV : Hid (x = true) := HX.out.trans (by simp)
        clear HX
        go_enter Tryd.func43, Tryd.ntmps43
        go_wp2_with fail
        go_ret
        exact ⟨by rw [HV.out]; rfl, HB2.out _⟩
      · have HV : Hid (x = false) := HX.out.trans (by simp [l1])
        clear HX
        go_enter Tryd.func43, Tryd.ntmps43
        go_wp2_with fail
        go_ret
        exact ⟨by rw [HV.out]; first | rfl | (simp [l1, l2, l3]), HB2.out _⟩
    · have HV : Hid (x = false) := HX.out.trans (by simp [n1])
      clear HX
      go_enter Tryd.func43, Tryd.ntmps43
      go_wp2_with fail
      go_ret
      exact ⟨by rw [HV.out]; first | rfl | (simp [n1, n2]), HB2.out _⟩
  rcases num_cs k 3 with ⟨rfl, -, -⟩ | ⟨k3, -, k3'⟩
  · clear k1 k1' k2 k2'
    rcases num_cs n 0 with ⟨rfl, -, -⟩ | ⟨n1, -, n2⟩
    · rcases str_cs s with rfl | ⟨s1, s2, s3, s4⟩
      · have HV : Hid (x = true) := HX.out.trans (by simp)
        clear HX
        go_enter Tryd.func43, Tryd.ntmps43
        go_wp2_with fail
        go_ret
        exact ⟨by rw [HV.out]; rfl, HB2.out _⟩
      · have HV : Hid (x = false) := HX.out.trans (by simp [s1])
        clear HX
        go_enter Tryd.func43, Tryd.ntmps43
        go_wp2_with fail
        go_ret
        exact ⟨by rw [HV.out]; first | rfl | (simp [s2, s3, s4]), HB2.out _⟩
    · have HV : Hid (x = false) := HX.out.trans (by simp [n1])
      clear HX
      go_enter Tryd.func43, Tryd.ntmps43
      go_wp2_with fail
      go_ret
      exact ⟨by rw [HV.out]; first | rfl | (simp [n1, n2]), HB2.out _⟩
  have HV : Hid (x = false) := HX.out.trans (by rw [if_neg k1, if_neg k2, if_neg k3])
  clear HX
  go_enter Tryd.func43, Tryd.ntmps43
  go_wp2_with fail
  go_ret
  exact ⟨by rw [HV.out]; rfl, HB2.out _⟩
end Go.Proofs.YthgagobdkcikiaaDoor
