/-
  NARROWER THAN 'FOR EVERY INPUT', by the rows' own cells (each row's printed sentence says how): PoolNames: laid · PoolChecks: loops, laid · PoolStays: loops, laid · PoolNil: loops, laid · PoolParts: loops, laid.
  DERIVED. THE GIVEN ROWS OF THIS SEAT. 5 by the template 'for every input the law returns true; each argument reads behind the call as it read before'; 0 by the template 'total and deterministic' (their statements: YtinldjjbfhpnkaaDoorTotals.lean).
  GIVEN WITH THE SEED: the statements are not yours to turn. If you find one false, say at which input.
  Laid BY PROGRAM, IN A SANDBOX (cutbox-rows.mjs): the forced cells as the released guide's own fill.sh prints them over the translation 73d72c7e3d8e6450… (all of the seat's roots in one cut). By AI agents, Wed Nov 11 2026. No macro, syntax, notation, axiom, sorry.
-/
import Derived.Test.YtinldjjbfhpnkaaDoorChecked
import GoSem.Claim
import GoSem.ClaimJoined
import GoSem.ClaimMapViews
import Derived.JoinedTies
import Derived.KernelRfl
namespace Go.Proofs.YtinldjjbfhpnkaaDoor
/- THE CELL 'sum', in the pinned program and in every row, IS THE sha256 OF THE DUMP (.gsa) THAT YtinldjjbfhpnkaaDoorProg.lean LOADS. Nothing in Lean hashes anything: it is a label: what it is worth is what the hold of that sum in a sandbox is worth. -/
noncomputable def Tryd.pinned : Pinned := { name := "ytinldjjbfhpnkaadoor", sum := "73d72c7e3d8e645088cad5af9ba513a526e0e08e03eab44231c01603258e9964", checked := Tryd.checked }
namespace Rows
def none {H : Type} : Left H := { results := [], args := [] }

/- WHAT THE LISTED PACKAGE-LEVEL VARIABLES READ AS WHEN THE CALL BEGINS. Each datum BY PROGRAM (the guide's laid-datum.mjs) off the statement by which the dump's own 'gosem.cut.vars' lays the variable. In a bare row this is a premise. The card (YtinldjjbfhpnkaaDoorCards.lean) ties it to the program's text. -/
def laid_chandler_dep_signs {H : Type} : DataW H := .agg [.lit (.string []), .lit (.string [60]), .lit (.string [61]), .lit (.string [60, 61]), .lit (.string [62]), .lit (.string [60, 62]), .lit (.string [62, 61]), .lit (.string [60, 61, 62])]
def laid_chandler_dep_words {H : Type} : DataW H := .agg [.lit (.string []), .lit (.string []), .lit (.string [97, 110, 100]), .lit (.string [111, 114]), .lit (.string [105, 102]), .lit (.string [119, 105, 116, 104]), .lit (.string [119, 105, 116, 104, 111, 117, 116]), .lit (.string [])]

/-- 'chandlerlaw06.PoolNames': WHATEVER THE INPUT: true; the input reads as it did. -/
def poolNamesSpec : ChangeSpec := { name := "poolNames", fn := fun _ => fun
  | [] => { results := [.lit (.bool true)], args := [] }
  | _ => none }
def poolNamesRow : OpenClaim := { program := "ytinldjjbfhpnkaadoor", sum := "73d72c7e3d8e645088cad5af9ba513a526e0e08e03eab44231c01603258e9964", func := "chandler/chandlerlaw06.PoolNames", spec := "poolNames", inPlace := ["internal/bytealg.IndexByteString", "internal/bytealg.IndexString"], unfollowed := true, recurses := true, named := ["chandler/dep.words", "chandler/dep.signs", "internal/bytealg.MaxLen"], apart := false, laid := [("chandler/dep.signs", laid_chandler_dep_signs), ("chandler/dep.words", laid_chandler_dep_words)] }
def PoolNamesSaid : Prop := poolNamesRow.holds Tryd.pinned (OpenSpec.ofChange poolNamesSpec)

/-- ITS FALSE NEIGHBOUR: 'it returns false'. Refute it at one input. -/
def poolNamesWrong : ChangeSpec := { name := "poolNames", fn := fun _ => fun
  | [] => { results := [.lit (.bool false)], args := [] }
  | _ => none }
def PoolNamesWrongFalsely : Prop := poolNamesRow.holds Tryd.pinned (OpenSpec.ofChange poolNamesWrong)

/-- 'chandlerlaw06.PoolChecks': WHATEVER THE INPUT: true; the input reads as it did. -/
def poolChecksSpec : ChangeSpec := { name := "poolChecks", fn := fun _ => fun
  | [d] => { results := [.lit (.bool true)], args := [d] }
  | _ => none }
def poolChecksRow : OpenClaim := { program := "ytinldjjbfhpnkaadoor", sum := "73d72c7e3d8e645088cad5af9ba513a526e0e08e03eab44231c01603258e9964", func := "chandler/chandlerlaw06.PoolChecks", spec := "poolChecks", inPlace := ["internal/bytealg.IndexByteString", "internal/bytealg.IndexString"], unfollowed := true, recurses := true, named := ["chandler/dep.words", "chandler/dep.signs", "internal/bytealg.MaxLen"], loops := true, apart := false, laid := [("chandler/dep.signs", laid_chandler_dep_signs), ("chandler/dep.words", laid_chandler_dep_words)] }
def PoolChecksSaid : Prop := poolChecksRow.holds Tryd.pinned (OpenSpec.ofChange poolChecksSpec)

/-- ITS FALSE NEIGHBOUR: 'it returns false'. Refute it at one input. -/
def poolChecksWrong : ChangeSpec := { name := "poolChecks", fn := fun _ => fun
  | [d] => { results := [.lit (.bool false)], args := [d] }
  | _ => none }
def PoolChecksWrongFalsely : Prop := poolChecksRow.holds Tryd.pinned (OpenSpec.ofChange poolChecksWrong)

/-- 'chandlerlaw06.PoolStays': WHATEVER THE INPUT: true; the input reads as it did. -/
def poolStaysSpec : ChangeSpec := { name := "poolStays", fn := fun _ => fun
  | [d1, d2] => { results := [.lit (.bool true)], args := [d1, d2] }
  | _ => none }
def poolStaysRow : OpenClaim := { program := "ytinldjjbfhpnkaadoor", sum := "73d72c7e3d8e645088cad5af9ba513a526e0e08e03eab44231c01603258e9964", func := "chandler/chandlerlaw06.PoolStays", spec := "poolStays", inPlace := ["internal/bytealg.IndexByteString", "internal/bytealg.IndexString"], unfollowed := true, recurses := true, named := ["chandler/dep.words", "chandler/dep.signs", "internal/bytealg.MaxLen"], loops := true, apart := false, laid := [("chandler/dep.signs", laid_chandler_dep_signs), ("chandler/dep.words", laid_chandler_dep_words)] }
def PoolStaysSaid : Prop := poolStaysRow.holds Tryd.pinned (OpenSpec.ofChange poolStaysSpec)

/-- ITS FALSE NEIGHBOUR: 'it returns false'. Refute it at one input. -/
def poolStaysWrong : ChangeSpec := { name := "poolStays", fn := fun _ => fun
  | [d1, d2] => { results := [.lit (.bool false)], args := [d1, d2] }
  | _ => none }
def PoolStaysWrongFalsely : Prop := poolStaysRow.holds Tryd.pinned (OpenSpec.ofChange poolStaysWrong)

/-- 'chandlerlaw06.PoolNil': WHATEVER THE INPUT: true; the input reads as it did. -/
def poolNilSpec : ChangeSpec := { name := "poolNil", fn := fun _ => fun
  | [d1, d2, d3] => { results := [.lit (.bool true)], args := [d1, d2, d3] }
  | _ => none }
def poolNilRow : OpenClaim := { program := "ytinldjjbfhpnkaadoor", sum := "73d72c7e3d8e645088cad5af9ba513a526e0e08e03eab44231c01603258e9964", func := "chandler/chandlerlaw06.PoolNil", spec := "poolNil", inPlace := ["internal/bytealg.IndexByteString", "internal/bytealg.IndexString"], unfollowed := true, recurses := true, named := ["chandler/dep.words", "chandler/dep.signs", "internal/bytealg.MaxLen"], loops := true, apart := false, laid := [("chandler/dep.signs", laid_chandler_dep_signs), ("chandler/dep.words", laid_chandler_dep_words)] }
def PoolNilSaid : Prop := poolNilRow.holds Tryd.pinned (OpenSpec.ofChange poolNilSpec)

/-- ITS FALSE NEIGHBOUR: 'it returns false'. Refute it at one input. -/
def poolNilWrong : ChangeSpec := { name := "poolNil", fn := fun _ => fun
  | [d1, d2, d3] => { results := [.lit (.bool false)], args := [d1, d2, d3] }
  | _ => none }
def PoolNilWrongFalsely : Prop := poolNilRow.holds Tryd.pinned (OpenSpec.ofChange poolNilWrong)

/-- 'chandlerlaw06.PoolParts': WHATEVER THE INPUT: true; the input reads as it did. -/
def poolPartsSpec : ChangeSpec := { name := "poolParts", fn := fun _ => fun
  | [d] => { results := [.lit (.bool true)], args := [d] }
  | _ => none }
def poolPartsRow : OpenClaim := { program := "ytinldjjbfhpnkaadoor", sum := "73d72c7e3d8e645088cad5af9ba513a526e0e08e03eab44231c01603258e9964", func := "chandler/chandlerlaw06.PoolParts", spec := "poolParts", inPlace := ["internal/bytealg.IndexByteString", "internal/bytealg.IndexString"], unfollowed := true, recurses := true, named := ["chandler/dep.words", "chandler/dep.signs", "internal/bytealg.MaxLen"], loops := true, apart := false, laid := [("chandler/dep.signs", laid_chandler_dep_signs), ("chandler/dep.words", laid_chandler_dep_words)] }
def PoolPartsSaid : Prop := poolPartsRow.holds Tryd.pinned (OpenSpec.ofChange poolPartsSpec)

/-- ITS FALSE NEIGHBOUR: 'it returns false'. Refute it at one input. -/
def poolPartsWrong : ChangeSpec := { name := "poolParts", fn := fun _ => fun
  | [d] => { results := [.lit (.bool false)], args := [d] }
  | _ => none }
def PoolPartsWrongFalsely : Prop := poolPartsRow.holds Tryd.pinned (OpenSpec.ofChange poolPartsWrong)

/- THE SECOND FORM. 'bulk': how many values and letters a reading holds, each counted each time it is reached (what is shared counts as often as it is met; a slice's spare places count too). A statement '..UptoSaid' is the law's where the arguments, and the package variables that the reading takes, are together of bulk at most 1048576: NARROWER than '..Said'. Prove '..Said' where nothing that the law and all that it calls make is longer than what came in: it says more and counts as full. Else prove '..UptoSaid'. A law counts once. -/
mutual
def uptoBulk {H : Type} : DataW H → Nat
  | .lit (.string bytes) => bytes.length + 1
  | .lit _ => 1
  | .nil => 1
  | .ptr d => uptoBulk d + 1
  | .slice elems spare => uptoBulkAll elems + uptoBulkAll spare + 1
  | .agg parts => uptoBulkAll parts + 1
  | .iface _ d => uptoBulk d + 1
  | .map entries => uptoBulkEntries entries + 1
  | .held _ => 1
def uptoBulkAll {H : Type} : List (DataW H) → Nat
  | [] => 0
  | d :: r => uptoBulk d + uptoBulkAll r
def uptoBulkEntries {H : Type} : List (Lit × DataW H) → Nat
  | [] => 0
  | x :: r => uptoBulkEntry x + uptoBulkEntries r
def uptoBulkEntry {H : Type} : Lit × DataW H → Nat
  | (.string bytes, d) => bytes.length + uptoBulk d + 1
  | (_, d) => uptoBulk d + 1
 end
def uptoSmall : (H : Type) → List (DataW H) → Bool := fun _ ds => decide (uptoBulkAll ds ≤ 1048576)
def OpenSpec.upto (s : _root_.Go.ChangeSpec) : _root_.Go.OpenSpec := { _root_.Go.OpenSpec.ofChange s with cond := some uptoSmall }

/-- 'chandlerlaw06.PoolNames', WHERE WHAT IT READS IS OF BULK AT MOST 1048576: true; the input reads as it did. -/
def poolNamesUptoRow : OpenClaim := { program := "ytinldjjbfhpnkaadoor", sum := "73d72c7e3d8e645088cad5af9ba513a526e0e08e03eab44231c01603258e9964", func := "chandler/chandlerlaw06.PoolNames", spec := "poolNames", inPlace := ["internal/bytealg.IndexByteString", "internal/bytealg.IndexString"], unfollowed := true, recurses := true, named := ["chandler/dep.words", "chandler/dep.signs", "internal/bytealg.MaxLen"], apart := false, laid := [("chandler/dep.signs", laid_chandler_dep_signs), ("chandler/dep.words", laid_chandler_dep_words)], narrowed := true }
def PoolNamesUptoSaid : Prop := poolNamesUptoRow.holds Tryd.pinned (OpenSpec.upto poolNamesSpec)

/-- 'chandlerlaw06.PoolChecks', WHERE WHAT IT READS IS OF BULK AT MOST 1048576: true; the input reads as it did. -/
def poolChecksUptoRow : OpenClaim := { program := "ytinldjjbfhpnkaadoor", sum := "73d72c7e3d8e645088cad5af9ba513a526e0e08e03eab44231c01603258e9964", func := "chandler/chandlerlaw06.PoolChecks", spec := "poolChecks", inPlace := ["internal/bytealg.IndexByteString", "internal/bytealg.IndexString"], unfollowed := true, recurses := true, named := ["chandler/dep.words", "chandler/dep.signs", "internal/bytealg.MaxLen"], loops := true, apart := false, laid := [("chandler/dep.signs", laid_chandler_dep_signs), ("chandler/dep.words", laid_chandler_dep_words)], narrowed := true }
def PoolChecksUptoSaid : Prop := poolChecksUptoRow.holds Tryd.pinned (OpenSpec.upto poolChecksSpec)

/-- 'chandlerlaw06.PoolStays', WHERE WHAT IT READS IS OF BULK AT MOST 1048576: true; the input reads as it did. -/
def poolStaysUptoRow : OpenClaim := { program := "ytinldjjbfhpnkaadoor", sum := "73d72c7e3d8e645088cad5af9ba513a526e0e08e03eab44231c01603258e9964", func := "chandler/chandlerlaw06.PoolStays", spec := "poolStays", inPlace := ["internal/bytealg.IndexByteString", "internal/bytealg.IndexString"], unfollowed := true, recurses := true, named := ["chandler/dep.words", "chandler/dep.signs", "internal/bytealg.MaxLen"], loops := true, apart := false, laid := [("chandler/dep.signs", laid_chandler_dep_signs), ("chandler/dep.words", laid_chandler_dep_words)], narrowed := true }
def PoolStaysUptoSaid : Prop := poolStaysUptoRow.holds Tryd.pinned (OpenSpec.upto poolStaysSpec)

/-- 'chandlerlaw06.PoolNil', WHERE WHAT IT READS IS OF BULK AT MOST 1048576: true; the input reads as it did. -/
def poolNilUptoRow : OpenClaim := { program := "ytinldjjbfhpnkaadoor", sum := "73d72c7e3d8e645088cad5af9ba513a526e0e08e03eab44231c01603258e9964", func := "chandler/chandlerlaw06.PoolNil", spec := "poolNil", inPlace := ["internal/bytealg.IndexByteString", "internal/bytealg.IndexString"], unfollowed := true, recurses := true, named := ["chandler/dep.words", "chandler/dep.signs", "internal/bytealg.MaxLen"], loops := true, apart := false, laid := [("chandler/dep.signs", laid_chandler_dep_signs), ("chandler/dep.words", laid_chandler_dep_words)], narrowed := true }
def PoolNilUptoSaid : Prop := poolNilUptoRow.holds Tryd.pinned (OpenSpec.upto poolNilSpec)

/-- 'chandlerlaw06.PoolParts', WHERE WHAT IT READS IS OF BULK AT MOST 1048576: true; the input reads as it did. -/
def poolPartsUptoRow : OpenClaim := { program := "ytinldjjbfhpnkaadoor", sum := "73d72c7e3d8e645088cad5af9ba513a526e0e08e03eab44231c01603258e9964", func := "chandler/chandlerlaw06.PoolParts", spec := "poolParts", inPlace := ["internal/bytealg.IndexByteString", "internal/bytealg.IndexString"], unfollowed := true, recurses := true, named := ["chandler/dep.words", "chandler/dep.signs", "internal/bytealg.MaxLen"], loops := true, apart := false, laid := [("chandler/dep.signs", laid_chandler_dep_signs), ("chandler/dep.words", laid_chandler_dep_words)], narrowed := true }
def PoolPartsUptoSaid : Prop := poolPartsUptoRow.holds Tryd.pinned (OpenSpec.upto poolPartsSpec)

end Rows
end Go.Proofs.YtinldjjbfhpnkaaDoor
