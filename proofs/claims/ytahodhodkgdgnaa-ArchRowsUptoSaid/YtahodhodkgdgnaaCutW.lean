/- A text is cut at its first > or :. -/
import Derived.Test.YtahodhodkgdgnaaAny2
namespace Go.Proofs.Ytahodhodkgdgnaa
set_option linter.unusedSimpArgs false
set_option linter.unusedVariables false
open Go.RowKit

set_option maxHeartbeats 1000000 in
set_option maxRecDepth 100000 in
theorem cut_none (s : ByteArray) (hs : s.size ≤ maxLen) (h : s.data.toList.all nosep = true) (w : World) :
    Calls Try.prog 15 #[.string s] w fun e w' => e = .returned (.tuple #[.string s, .string ⟨#[]⟩, .int .u8 0]) ∧ Below w.heap.size w w' := by
  have C := Lib.hid (indexAny_any s hs w)
  rw [sepAt_none h] at C
  unfold seps at C
  clear h
  go_enter Try.func15, Try.ntmps15
  go_wp2_with fail
  refine C.out.mono ?_
  rintro e w1 ⟨rfl, hb⟩
  go_wp2_with fail
  exact bodyPost_ret (v := .tuple #[.string s, .string ⟨#[]⟩, .int .u8 0]) (by simp [results, Try.results15, go_sem]) rfl ⟨rfl, hb⟩

set_option maxHeartbeats 1000000 in
set_option maxRecDepth 100000 in
theorem cut_some (s : ByteArray) (hs : s.size ≤ maxLen) (k : Nat) (hk : k < s.size) (h : (s.data.toList.take k).all nosep = true) (hc : isSep (s[k]'hk) = true) (w : World) :
    Calls Try.prog 15 #[.string s] w fun e w' => e = .returned (.tuple #[.string (s.extract 0 k), .string (s.extract (k + 1) s.size), .int .u8 ((s[k]'hk).toNat : Int)]) ∧ Below w.heap.size w w' := by
  have C := Lib.hid (indexAny_any s hs w)
  rw [sepAt_hit h (byte_at hk) hc] at C
  unfold seps at C
  unfold maxLen at hs
  clear h hc
  go_enter Try.func15, Try.ntmps15
  go_wp2_with fail
  refine C.out.mono ?_
  rintro e w1 ⟨rfl, hb⟩
  go_wp2_with fail
  go_quiet (fail)
  go_wp2_with fail
  exact bodyPost_ret (v := .tuple #[.string (s.extract 0 k), .string (s.extract (k + 1) s.size), .int .u8 ((s[k]'hk).toNat : Int)]) (by simp [results, Try.results15, go_sem]) rfl ⟨rfl, below_drewN' hb _⟩
end Go.Proofs.Ytahodhodkgdgnaa
