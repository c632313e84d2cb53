/- Numbers as their digits compared: compareNumbers; what rpm or Debian says of two texts, of a part each. -/
import Derived.Test.YtbfpljlgjpmmmaaDoorRest
import Derived.Test.YtbfpljlgjpmmmaaDoorShelf
namespace Go.Proofs.YtbfpljlgjpmmmaaDoor
set_option linter.unusedSimpArgs false
set_option linter.unusedVariables false
open Go.RowKit

theorem trim_list (s : ByteArray) : ((⟨(Lib.trimLeftB s.data.toList 48).toArray⟩ : ByteArray)).data.toList = nz s.data.toList := rfl

set_option maxHeartbeats 400000 in
set_option maxRecDepth 100000 in
theorem num_any (a b : ByteArray) (ha : a.size ≤ maxLen) (hb : b.size ≤ maxLen) (w : World) :
    Calls Tryd.prog 43 #[.string a, .string b] w fun e w' => e = .returned (.int .i64 (cmpNum a.data.toList b.data.toList)) ∧ Below w.heap.size w w' := by
  have CA := Lib.hid (fun w => Tryd.strings_TrimLeft_one a 48 (by decide) w)
  have CB := Lib.hid (fun w => Tryd.strings_TrimLeft_one b 48 (by decide) w)
  have EA := Lib.hid (trim_list a)
  have EB := Lib.hid (trim_list b)
  have SA : (⟨(Lib.trimLeftB a.data.toList 48).toArray⟩ : ByteArray).size ≤ maxLen := by
    rw [← size_len, trim_list]
    exact Nat.le_trans (dropWhile_le _ _) (by rw [size_len]; exact ha)
  have SB : (⟨(Lib.trimLeftB b.data.toList 48).toArray⟩ : ByteArray).size ≤ maxLen := by
    rw [← size_len, trim_list]
    exact Nat.le_trans (dropWhile_le _ _) (by rw [size_len]; exact hb)
  have HC := Lib.hid (show cmpNum a.data.toList b.data.toList = thenC (cmpI (nz a.data.toList).length (nz b.data.toList).length) (cmpL (nz a.data.toList) (nz b.data.toList)) from rfl)
  generalize (⟨(Lib.trimLeftB a.data.toList 48).toArray⟩ : ByteArray) = a' at *
  generalize (⟨(Lib.trimLeftB b.data.toList 48).toArray⟩ : ByteArray) = b' at *
  have HC' : Hid (cmpNum a.data.toList b.data.toList = thenC (Lib.compareInt a'.size b'.size) (Lib.compareBytes a'.data.toList b'.data.toList)) := by
    show cmpNum _ _ = _
    rw [HC.out, compareBytes_eq, EA.out, EB.out, ← EA.out, ← EB.out, size_len, size_len]; rfl
  unfold maxLen at ha hb SA SB
  clear HC EA EB
  generalize cmpNum a.data.toList b.data.toList = t at *
  have CI := Lib.hid (fun w => Tryd.cmp_Compare_int (a'.size : Int) (b'.size : Int) w)
  have CS := Lib.hid (fun w => Tryd.strings_Compare a' b' w)
  generalize Lib.compareInt (a'.size : Int) (b'.size : Int) = x at *
  generalize Lib.compareBytes a'.data.toList b'.data.toList = y at *
  go_enter Tryd.func43, Tryd.ntmps43
  go_wp2_with fail
  refine (CA.out _).mono ?_
  rintro e w1 ⟨rfl, rfl⟩
  go_wp2_with fail
  refine (CB.out _).mono ?_
  rintro e w2 ⟨rfl, rfl⟩
  go_wp2_with fail
  refine (CI.out _).mono ?_
  rintro e w3 ⟨rfl, rfl⟩
  go_wp2_with fail
  refine (CS.out _).mono ?_
  rintro e w4 ⟨rfl, rfl⟩
  go_wp2_with fail
  have B := Blk.new w4 3 #[.int .i64 x, .int .i64 y]
  refine (or_any _ x y _ (B.cell 0) (B.cell 1)).mono ?_
  rintro e w5 ⟨rfl, rfl⟩
  go_wp2_with fail
  go_ret
  rw [HC'.out]
  exact ⟨rfl, (Below.refl _ _).alloc (Nat.le_refl _) _⟩
end Go.Proofs.YtbfpljlgjpmmmaaDoor
