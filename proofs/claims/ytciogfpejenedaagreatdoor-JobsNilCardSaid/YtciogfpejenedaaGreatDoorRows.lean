/-
  NARROWER THAN 'FOR EVERY INPUT', by the rows' own cells (each row's printed sentence says how): JobsNil: laid.
  DERIVED. THE GIVEN ROWS OF THIS SEAT. 1 by the template 'for every input the law returns true; each argument reads behind the call as it read before'; 0 by the template 'total and deterministic' (their statements: YtciogfpejenedaaGreatDoorTotals.lean).
  GIVEN WITH THE SEED: the statements are not yours to turn. If you find one false, say at which input.
  Laid BY PROGRAM, IN A SANDBOX (cutbox-rows.mjs): the forced cells as the released guide's own fill.sh prints them over the translation e2e903771d816f17… (all of the seat's roots in one cut). By AI agents, Wed Nov 11 2026. No macro, syntax, notation, axiom, sorry.
-/
import Derived.Test.YtciogfpejenedaaGreatDoorChecked
import GoSem.PinnedTables
import GoSem.Claim
import GoSem.ClaimJoined
import GoSem.ClaimMapViews
import Derived.JoinedTies
import Derived.KernelRfl
namespace Go.Proofs.YtciogfpejenedaaGreatDoor
/- THE CELL 'sum', in the pinned program and in every row, IS THE sha256 OF THE DUMP (.gsa) THAT YtciogfpejenedaaGreatDoorProg.lean LOADS. Nothing in Lean hashes anything: it is a label: what it is worth is what the hold of that sum in a sandbox is worth. -/
noncomputable def Tryz.pinned : Pinned := { name := "ytciogfpejenedaagreatdoor", sum := "e2e903771d816f17209e147c4b33e1e9a54b84ad66d5a33ec6c2668ba81476cc", checked := Tryz.checked }
namespace Rows
def none {H : Type} : Left H := { results := [], args := [] }

/- WHAT THE LISTED PACKAGE-LEVEL VARIABLES READ AS WHEN THE CALL BEGINS. Each datum BY PROGRAM (the guide's laid-datum.mjs) off the statement by which the dump's own 'gosem.cut.vars' lays the variable. In a bare row this is a premise. The card (YtciogfpejenedaaGreatDoorCards.lean) ties it to the program's text. -/
def laid_unicode_utf8_acceptRanges {H : Type} : DataW H := .agg [.agg [.lit (.int .u8 128), .lit (.int .u8 191)], .agg [.lit (.int .u8 160), .lit (.int .u8 191)], .agg [.lit (.int .u8 128), .lit (.int .u8 159)], .agg [.lit (.int .u8 144), .lit (.int .u8 191)], .agg [.lit (.int .u8 128), .lit (.int .u8 143)], .agg [.lit (.int .u8 0), .lit (.int .u8 0)], .agg [.lit (.int .u8 0), .lit (.int .u8 0)], .agg [.lit (.int .u8 0), .lit (.int .u8 0)], .agg [.lit (.int .u8 0), .lit (.int .u8 0)], .agg [.lit (.int .u8 0), .lit (.int .u8 0)], .agg [.lit (.int .u8 0), .lit (.int .u8 0)], .agg [.lit (.int .u8 0), .lit (.int .u8 0)], .agg [.lit (.int .u8 0), .lit (.int .u8 0)], .agg [.lit (.int .u8 0), .lit (.int .u8 0)], .agg [.lit (.int .u8 0), .lit (.int .u8 0)], .agg [.lit (.int .u8 0), .lit (.int .u8 0)]]
def laid_chandler_dep_signs {H : Type} : DataW H := .agg [.lit (.string []), .lit (.string [60]), .lit (.string [61]), .lit (.string [60, 61]), .lit (.string [62]), .lit (.string [60, 62]), .lit (.string [62, 61]), .lit (.string [60, 61, 62])]
def laid_chandler_dep_words {H : Type} : DataW H := .agg [.lit (.string []), .lit (.string []), .lit (.string [97, 110, 100]), .lit (.string [111, 114]), .lit (.string [105, 102]), .lit (.string [119, 105, 116, 104]), .lit (.string [119, 105, 116, 104, 111, 117, 116]), .lit (.string [])]
def laid_chandler_jobs_kinds {H : Type} : DataW H := .agg [.lit (.string []), .lit (.string [105, 110, 115, 116, 97, 108, 108]), .lit (.string [101, 114, 97, 115, 101]), .lit (.string [117, 112, 100, 97, 116, 101]), .lit (.string [100, 117, 112]), .lit (.string [108, 111, 99, 107]), .lit (.string [109, 117, 108, 116, 105]), .lit (.string [102, 97, 118, 111, 114])]
def laid_chandler_jobs_hows {H : Type} : DataW H := .agg [.lit (.string []), .lit (.string [110, 97, 109, 101]), .lit (.string [103, 108, 111, 98]), .lit (.string [100, 101, 112]), .lit (.string [101, 120, 97, 99, 116]), .lit (.string [97, 108, 108])]
/-- One of Go's own tables, pinned by name: the form's constant. -/
def laid_unicode_utf8_first : DataW Unit := Go.Pinned.utf8First

/-- 'chandlerlaw14.JobsNil': WHATEVER THE INPUT: true; the input reads as it did. -/
def jobsNilSpec : ChangeSpec := { name := "jobsNil", fn := fun _ => fun
  | [d] => { results := [.lit (.bool true)], args := [d] }
  | _ => none }
def jobsNilRow : OpenClaim := { program := "ytciogfpejenedaagreatdoor", sum := "e2e903771d816f17209e147c4b33e1e9a54b84ad66d5a33ec6c2668ba81476cc", func := "chandler/chandlerlaw14.JobsNil", spec := "jobsNil", inPlace := ["internal/bytealg.IndexByteString", "internal/bytealg.IndexString", "internal/abi.NoEscape", "internal/bytealg.abigen_runtime_cmpstring"], unfollowed := true, recurses := true, named := ["chandler/jobs.kinds", "chandler/jobs.hows", "internal/bytealg.MaxLen", "chandler/dep.signs", "chandler/dep.words", "unicode/utf8.first", "unicode/utf8.acceptRanges"], apart := false, laid := [("unicode/utf8.acceptRanges", laid_unicode_utf8_acceptRanges), ("chandler/dep.signs", laid_chandler_dep_signs), ("chandler/dep.words", laid_chandler_dep_words), ("chandler/jobs.kinds", laid_chandler_jobs_kinds), ("chandler/jobs.hows", laid_chandler_jobs_hows), ("unicode/utf8.first", laid_unicode_utf8_first)] }
def JobsNilSaid : Prop := jobsNilRow.holds Tryz.pinned (OpenSpec.ofChange jobsNilSpec)

/-- ITS FALSE NEIGHBOUR: 'it returns false'. Refute it at one input. -/
def jobsNilWrong : ChangeSpec := { name := "jobsNil", fn := fun _ => fun
  | [d] => { results := [.lit (.bool false)], args := [d] }
  | _ => none }
def JobsNilWrongFalsely : Prop := jobsNilRow.holds Tryz.pinned (OpenSpec.ofChange jobsNilWrong)

/- THE SECOND FORM. 'bulk': how many values and letters a reading holds, each counted each time it is reached (what is shared counts as often as it is met; a slice's spare places count too). A statement '..UptoSaid' is the law's where the arguments, and the package variables that the reading takes, are together of bulk at most 1048576: NARROWER than '..Said'. Prove '..Said' where nothing that the law and all that it calls make is longer than what came in: it says more and counts as full. Else prove '..UptoSaid'. A law counts once. -/
mutual
def uptoBulk {H : Type} : DataW H → Nat
  | .lit (.string bytes) => bytes.length + 1
  | .lit _ => 1
  | .nil => 1
  | .ptr d => uptoBulk d + 1
  | .slice elems spare => uptoBulkAll elems + uptoBulkAll spare + 1
  | .agg parts => uptoBulkAll parts + 1
  | .iface _ d => uptoBulk d + 1
  | .map entries => uptoBulkEntries entries + 1
  | .held _ => 1
def uptoBulkAll {H : Type} : List (DataW H) → Nat
  | [] => 0
  | d :: r => uptoBulk d + uptoBulkAll r
def uptoBulkEntries {H : Type} : List (Lit × DataW H) → Nat
  | [] => 0
  | x :: r => uptoBulkEntry x + uptoBulkEntries r
def uptoBulkEntry {H : Type} : Lit × DataW H → Nat
  | (.string bytes, d) => bytes.length + uptoBulk d + 1
  | (_, d) => uptoBulk d + 1
 end
def uptoSmall : (H : Type) → List (DataW H) → Bool := fun _ ds => decide (uptoBulkAll ds ≤ 1048576)
def OpenSpec.upto (s : _root_.Go.ChangeSpec) : _root_.Go.OpenSpec := { _root_.Go.OpenSpec.ofChange s with cond := some uptoSmall }

/-- 'chandlerlaw14.JobsNil', WHERE WHAT IT READS IS OF BULK AT MOST 1048576: true; the input reads as it did. -/
def jobsNilUptoRow : OpenClaim := { program := "ytciogfpejenedaagreatdoor", sum := "e2e903771d816f17209e147c4b33e1e9a54b84ad66d5a33ec6c2668ba81476cc", func := "chandler/chandlerlaw14.JobsNil", spec := "jobsNil", inPlace := ["internal/bytealg.IndexByteString", "internal/bytealg.IndexString", "internal/abi.NoEscape", "internal/bytealg.abigen_runtime_cmpstring"], unfollowed := true, recurses := true, named := ["chandler/jobs.kinds", "chandler/jobs.hows", "internal/bytealg.MaxLen", "chandler/dep.signs", "chandler/dep.words", "unicode/utf8.first", "unicode/utf8.acceptRanges"], apart := false, laid := [("unicode/utf8.acceptRanges", laid_unicode_utf8_acceptRanges), ("chandler/dep.signs", laid_chandler_dep_signs), ("chandler/dep.words", laid_chandler_dep_words), ("chandler/jobs.kinds", laid_chandler_jobs_kinds), ("chandler/jobs.hows", laid_chandler_jobs_hows), ("unicode/utf8.first", laid_unicode_utf8_first)], narrowed := true }
def JobsNilUptoSaid : Prop := jobsNilUptoRow.holds Tryz.pinned (OpenSpec.upto jobsNilSpec)

end Rows
end Go.Proofs.YtciogfpejenedaaGreatDoor
