/- A version taken apart: split. -/
import Derived.Test.YtciogfpejenedaaGreatDoorByte
import Derived.Test.YtciogfpejenedaaGreatDoorCut
namespace Go.Proofs.YtciogfpejenedaaGreatDoor
set_option linter.unusedSimpArgs false
set_option linter.unusedVariables false
open Go.RowKit

/-- A version's parts as a value. -/
def evrV : Option Parts → Value
  | none => .agg #[.string ⟨#[]⟩, .string ⟨#[]⟩, .string ⟨#[]⟩]
  | some p => .agg #[.string (mkS p.e), .string (mkS p.v), .string (mkS p.r)]
def SplitPost (w0 : World) (o : Option Parts) (e : Ending) (w : World) : Prop := e = .returned (.tuple #[evrV o, .bool o.isSome]) ∧ Below w0.heap.size w0 w
theorem SplitPost.mk_none {w0 w : World} {o : Option Parts} (h : o = none) (hb : Below w0.heap.size w0 w) : SplitPost w0 o (.returned (.tuple #[.agg #[.string ⟨#[]⟩, .string ⟨#[]⟩, .string ⟨#[]⟩], .bool false])) w := by
  subst h; exact ⟨rfl, hb⟩
theorem SplitPost.mk_some {w0 w : World} {o : Option Parts} {e v r : ByteArray} (h : o = some ⟨e.data.toList, v.data.toList, r.data.toList⟩) (hb : Below w0.heap.size w0 w) : SplitPost w0 o (.returned (.tuple #[.agg #[.string e, .string v, .string r], .bool true])) w := by
  subst h; exact ⟨rfl, hb⟩

set_option maxHeartbeats 1000000 in
set_option maxRecDepth 100000 in
theorem split_long (s : ByteArray) (h : 60 < s.size) (w : World) : Calls Tryz.prog 115 #[.string s] w (SplitPost w (parse s.data.toList)) := by
  have HP := Lib.hid (parse_bad (l := s.data.toList) (by rw [size_len]; omega))
  have h1 : (60 : Int) < (s.size : Int) := by omega
  go_enter Tryz.func115, Tryz.ntmps115
  go_wp2_with fail
  refine bodyPost_ret (v := .tuple #[.agg #[.string ⟨#[]⟩, .string ⟨#[]⟩, .string ⟨#[]⟩], .bool false]) (by simp [results, Tryz.results115, go_sem]) rfl (SplitPost.mk_none HP.out ?_)
  exact (Below.refl _ _).alloc (Nat.le_refl _) _
end Go.Proofs.YtciogfpejenedaaGreatDoor
