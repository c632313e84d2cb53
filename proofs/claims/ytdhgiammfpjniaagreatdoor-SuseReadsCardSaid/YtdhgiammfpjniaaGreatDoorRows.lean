/-
  NARROWER THAN 'FOR EVERY INPUT', by the rows' own cells (each row's printed sentence says how): DebctlReads: laid · DebctlAgain: laid · DebctlJoins: laid · SuseNames: laid · SuseReads: laid · SuseAgain: laid · SuseJoins: laid · SuseBlocks: laid.
  DERIVED. THE GIVEN ROWS OF THIS SEAT. 8 by the template 'for every input the law returns true; each argument reads behind the call as it read before'; 0 by the template 'total and deterministic' (their statements: YtdhgiammfpjniaaGreatDoorTotals.lean).
  GIVEN WITH THE SEED: the statements are not yours to turn. If you find one false, say at which input.
  Laid BY PROGRAM, IN A SANDBOX (cutbox-rows.mjs): the forced cells as the released guide's own fill.sh prints them over the translation 5254ebd90c8a0f71… (all of the seat's roots in one cut). By AI agents, Wed Nov 11 2026. No macro, syntax, notation, axiom, sorry.
-/
import Derived.Test.YtdhgiammfpjniaaGreatDoorChecked
import GoSem.PinnedTables
import GoSem.Claim
import GoSem.ClaimJoined
import GoSem.ClaimMapViews
import Derived.JoinedTies
import Derived.KernelRfl
namespace Go.Proofs.YtdhgiammfpjniaaGreatDoor
/- THE CELL 'sum', in the pinned program and in every row, IS THE sha256 OF THE DUMP (.gsa) THAT YtdhgiammfpjniaaGreatDoorProg.lean LOADS. Nothing in Lean hashes anything: it is a label: what it is worth is what the hold of that sum in a sandbox is worth. -/
noncomputable def Tryz.pinned : Pinned := { name := "ytdhgiammfpjniaagreatdoor", sum := "5254ebd90c8a0f71592eba6059a8f7ac0493b3e6556d454c40fe434d192cd74c", checked := Tryz.checked }
namespace Rows
def none {H : Type} : Left H := { results := [], args := [] }

/- WHAT THE LISTED PACKAGE-LEVEL VARIABLES READ AS WHEN THE CALL BEGINS. Each datum BY PROGRAM (the guide's laid-datum.mjs) off the statement by which the dump's own 'gosem.cut.vars' lays the variable. In a bare row this is a premise. The card (YtdhgiammfpjniaaGreatDoorCards.lean) ties it to the program's text. -/
def laid_unicode_utf8_acceptRanges {H : Type} : DataW H := .agg [.agg [.lit (.int .u8 128), .lit (.int .u8 191)], .agg [.lit (.int .u8 160), .lit (.int .u8 191)], .agg [.lit (.int .u8 128), .lit (.int .u8 159)], .agg [.lit (.int .u8 144), .lit (.int .u8 191)], .agg [.lit (.int .u8 128), .lit (.int .u8 143)], .agg [.lit (.int .u8 0), .lit (.int .u8 0)], .agg [.lit (.int .u8 0), .lit (.int .u8 0)], .agg [.lit (.int .u8 0), .lit (.int .u8 0)], .agg [.lit (.int .u8 0), .lit (.int .u8 0)], .agg [.lit (.int .u8 0), .lit (.int .u8 0)], .agg [.lit (.int .u8 0), .lit (.int .u8 0)], .agg [.lit (.int .u8 0), .lit (.int .u8 0)], .agg [.lit (.int .u8 0), .lit (.int .u8 0)], .agg [.lit (.int .u8 0), .lit (.int .u8 0)], .agg [.lit (.int .u8 0), .lit (.int .u8 0)], .agg [.lit (.int .u8 0), .lit (.int .u8 0)]]
def laid_chandler_dep_signs {H : Type} : DataW H := .agg [.lit (.string []), .lit (.string [60]), .lit (.string [61]), .lit (.string [60, 61]), .lit (.string [62]), .lit (.string [60, 62]), .lit (.string [62, 61]), .lit (.string [60, 61, 62])]
def laid_chandler_dep_words {H : Type} : DataW H := .agg [.lit (.string []), .lit (.string []), .lit (.string [97, 110, 100]), .lit (.string [111, 114]), .lit (.string [105, 102]), .lit (.string [119, 105, 116, 104]), .lit (.string [119, 105, 116, 104, 111, 117, 116]), .lit (.string [])]
def laid_chandler_debctl_fields {H : Type} : DataW H := .agg [.lit (.string [80, 97, 99, 107, 97, 103, 101]), .lit (.string [86, 101, 114, 115, 105, 111, 110]), .lit (.string [65, 114, 99, 104, 105, 116, 101, 99, 116, 117, 114, 101]), .lit (.string [79, 114, 105, 103, 105, 110]), .lit (.string [80, 114, 111, 118, 105, 100, 101, 115]), .lit (.string [68, 101, 112, 101, 110, 100, 115]), .lit (.string [80, 114, 101, 45, 68, 101, 112, 101, 110, 100, 115]), .lit (.string [67, 111, 110, 102, 108, 105, 99, 116, 115]), .lit (.string [66, 114, 101, 97, 107, 115]), .lit (.string [82, 101, 112, 108, 97, 99, 101, 115]), .lit (.string [82, 101, 99, 111, 109, 109, 101, 110, 100, 115]), .lit (.string [69, 110, 104, 97, 110, 99, 101, 115])]
def laid_chandler_debctl_signs {H : Type} : DataW H := .agg [.lit (.string []), .lit (.string [60, 60]), .lit (.string [61]), .lit (.string [60, 61]), .lit (.string [62, 62]), .lit (.string []), .lit (.string [62, 61]), .lit (.string [])]
/-- One of Go's own tables, pinned by name: the form's constant. -/
def laid_unicode_utf8_first : DataW Unit := Go.Pinned.utf8First
def laid_chandler_suse_depTags {H : Type} : DataW H := .agg [.lit (.string [80, 114, 118]), .lit (.string [82, 101, 113]), .lit (.string [80, 114, 113]), .lit (.string [67, 111, 110]), .lit (.string [79, 98, 115]), .lit (.string [82, 101, 99]), .lit (.string [83, 117, 112])]

/-- 'chandlerlaw12.DebctlReads': WHATEVER THE INPUT: true; the input reads as it did. -/
def debctlReadsSpec : ChangeSpec := { name := "debctlReads", fn := fun _ => fun
  | [d] => { results := [.lit (.bool true)], args := [d] }
  | _ => none }
def debctlReadsRow : OpenClaim := { program := "ytdhgiammfpjniaagreatdoor", sum := "5254ebd90c8a0f71592eba6059a8f7ac0493b3e6556d454c40fe434d192cd74c", func := "chandler/chandlerlaw12.DebctlReads", spec := "debctlReads", inPlace := ["internal/bytealg.IndexByteString", "internal/bytealg.IndexString", "internal/abi.NoEscape", "internal/bytealg.MakeNoZero", "internal/bytealg.CountString"], unfollowed := true, recurses := true, named := ["internal/bytealg.MaxLen", "unicode/utf8.first", "unicode/utf8.acceptRanges", "chandler/debctl.fields", "chandler/debctl.signs", "chandler/dep.words", "chandler/dep.signs"], apart := false, laid := [("unicode/utf8.acceptRanges", laid_unicode_utf8_acceptRanges), ("chandler/dep.signs", laid_chandler_dep_signs), ("chandler/dep.words", laid_chandler_dep_words), ("chandler/debctl.fields", laid_chandler_debctl_fields), ("chandler/debctl.signs", laid_chandler_debctl_signs), ("unicode/utf8.first", laid_unicode_utf8_first)] }
def DebctlReadsSaid : Prop := debctlReadsRow.holds Tryz.pinned (OpenSpec.ofChange debctlReadsSpec)

/-- ITS FALSE NEIGHBOUR: 'it returns false'. Refute it at one input. -/
def debctlReadsWrong : ChangeSpec := { name := "debctlReads", fn := fun _ => fun
  | [d] => { results := [.lit (.bool false)], args := [d] }
  | _ => none }
def DebctlReadsWrongFalsely : Prop := debctlReadsRow.holds Tryz.pinned (OpenSpec.ofChange debctlReadsWrong)

/-- 'chandlerlaw12.DebctlAgain': WHATEVER THE INPUT: true; the input reads as it did. -/
def debctlAgainSpec : ChangeSpec := { name := "debctlAgain", fn := fun _ => fun
  | [d] => { results := [.lit (.bool true)], args := [d] }
  | _ => none }
def debctlAgainRow : OpenClaim := { program := "ytdhgiammfpjniaagreatdoor", sum := "5254ebd90c8a0f71592eba6059a8f7ac0493b3e6556d454c40fe434d192cd74c", func := "chandler/chandlerlaw12.DebctlAgain", spec := "debctlAgain", inPlace := ["internal/bytealg.IndexByteString", "internal/bytealg.IndexString", "internal/abi.NoEscape", "internal/bytealg.MakeNoZero", "internal/bytealg.CountString"], unfollowed := true, recurses := true, named := ["internal/bytealg.MaxLen", "unicode/utf8.first", "unicode/utf8.acceptRanges", "chandler/debctl.fields", "chandler/debctl.signs", "chandler/dep.words", "chandler/dep.signs"], apart := false, laid := [("unicode/utf8.acceptRanges", laid_unicode_utf8_acceptRanges), ("chandler/dep.signs", laid_chandler_dep_signs), ("chandler/dep.words", laid_chandler_dep_words), ("chandler/debctl.fields", laid_chandler_debctl_fields), ("chandler/debctl.signs", laid_chandler_debctl_signs), ("unicode/utf8.first", laid_unicode_utf8_first)] }
def DebctlAgainSaid : Prop := debctlAgainRow.holds Tryz.pinned (OpenSpec.ofChange debctlAgainSpec)

/-- ITS FALSE NEIGHBOUR: 'it returns false'. Refute it at one input. -/
def debctlAgainWrong : ChangeSpec := { name := "debctlAgain", fn := fun _ => fun
  | [d] => { results := [.lit (.bool false)], args := [d] }
  | _ => none }
def DebctlAgainWrongFalsely : Prop := debctlAgainRow.holds Tryz.pinned (OpenSpec.ofChange debctlAgainWrong)

/-- 'chandlerlaw12.DebctlJoins': WHATEVER THE INPUT: true; the input reads as it did. -/
def debctlJoinsSpec : ChangeSpec := { name := "debctlJoins", fn := fun _ => fun
  | [d1, d2] => { results := [.lit (.bool true)], args := [d1, d2] }
  | _ => none }
def debctlJoinsRow : OpenClaim := { program := "ytdhgiammfpjniaagreatdoor", sum := "5254ebd90c8a0f71592eba6059a8f7ac0493b3e6556d454c40fe434d192cd74c", func := "chandler/chandlerlaw12.DebctlJoins", spec := "debctlJoins", inPlace := ["internal/bytealg.IndexByteString", "internal/bytealg.IndexString", "internal/abi.NoEscape", "internal/bytealg.MakeNoZero", "internal/bytealg.CountString"], unfollowed := true, recurses := true, named := ["internal/bytealg.MaxLen", "unicode/utf8.first", "unicode/utf8.acceptRanges", "chandler/debctl.fields", "chandler/debctl.signs", "chandler/dep.words", "chandler/dep.signs"], apart := false, laid := [("unicode/utf8.acceptRanges", laid_unicode_utf8_acceptRanges), ("chandler/dep.signs", laid_chandler_dep_signs), ("chandler/dep.words", laid_chandler_dep_words), ("chandler/debctl.fields", laid_chandler_debctl_fields), ("chandler/debctl.signs", laid_chandler_debctl_signs), ("unicode/utf8.first", laid_unicode_utf8_first)] }
def DebctlJoinsSaid : Prop := debctlJoinsRow.holds Tryz.pinned (OpenSpec.ofChange debctlJoinsSpec)

/-- ITS FALSE NEIGHBOUR: 'it returns false'. Refute it at one input. -/
def debctlJoinsWrong : ChangeSpec := { name := "debctlJoins", fn := fun _ => fun
  | [d1, d2] => { results := [.lit (.bool false)], args := [d1, d2] }
  | _ => none }
def DebctlJoinsWrongFalsely : Prop := debctlJoinsRow.holds Tryz.pinned (OpenSpec.ofChange debctlJoinsWrong)

/-- 'chandlerlaw13.SuseNames': WHATEVER THE INPUT: true; the input reads as it did. -/
def suseNamesSpec : ChangeSpec := { name := "suseNames", fn := fun _ => fun
  | [] => { results := [.lit (.bool true)], args := [] }
  | _ => none }
def suseNamesRow : OpenClaim := { program := "ytdhgiammfpjniaagreatdoor", sum := "5254ebd90c8a0f71592eba6059a8f7ac0493b3e6556d454c40fe434d192cd74c", func := "chandler/chandlerlaw13.SuseNames", spec := "suseNames", inPlace := ["internal/bytealg.IndexByteString", "internal/bytealg.IndexString"], unfollowed := true, recurses := true, named := ["unicode/utf8.first", "unicode/utf8.acceptRanges", "chandler/dep.signs", "chandler/dep.words", "internal/bytealg.MaxLen"], apart := false, laid := [("unicode/utf8.acceptRanges", laid_unicode_utf8_acceptRanges), ("chandler/dep.signs", laid_chandler_dep_signs), ("chandler/dep.words", laid_chandler_dep_words), ("unicode/utf8.first", laid_unicode_utf8_first)] }
def SuseNamesSaid : Prop := suseNamesRow.holds Tryz.pinned (OpenSpec.ofChange suseNamesSpec)

/-- ITS FALSE NEIGHBOUR: 'it returns false'. Refute it at one input. -/
def suseNamesWrong : ChangeSpec := { name := "suseNames", fn := fun _ => fun
  | [] => { results := [.lit (.bool false)], args := [] }
  | _ => none }
def SuseNamesWrongFalsely : Prop := suseNamesRow.holds Tryz.pinned (OpenSpec.ofChange suseNamesWrong)

/-- 'chandlerlaw13.SuseReads': WHATEVER THE INPUT: true; the input reads as it did. -/
def suseReadsSpec : ChangeSpec := { name := "suseReads", fn := fun _ => fun
  | [d] => { results := [.lit (.bool true)], args := [d] }
  | _ => none }
def suseReadsRow : OpenClaim := { program := "ytdhgiammfpjniaagreatdoor", sum := "5254ebd90c8a0f71592eba6059a8f7ac0493b3e6556d454c40fe434d192cd74c", func := "chandler/chandlerlaw13.SuseReads", spec := "suseReads", inPlace := ["internal/bytealg.IndexByteString", "internal/bytealg.IndexString"], unfollowed := true, recurses := true, named := ["unicode/utf8.first", "unicode/utf8.acceptRanges", "chandler/dep.signs", "chandler/dep.words", "internal/bytealg.MaxLen"], apart := false, laid := [("unicode/utf8.acceptRanges", laid_unicode_utf8_acceptRanges), ("chandler/dep.signs", laid_chandler_dep_signs), ("chandler/dep.words", laid_chandler_dep_words), ("unicode/utf8.first", laid_unicode_utf8_first)] }
def SuseReadsSaid : Prop := suseReadsRow.holds Tryz.pinned (OpenSpec.ofChange suseReadsSpec)

/-- ITS FALSE NEIGHBOUR: 'it returns false'. Refute it at one input. -/
def suseReadsWrong : ChangeSpec := { name := "suseReads", fn := fun _ => fun
  | [d] => { results := [.lit (.bool false)], args := [d] }
  | _ => none }
def SuseReadsWrongFalsely : Prop := suseReadsRow.holds Tryz.pinned (OpenSpec.ofChange suseReadsWrong)

/-- 'chandlerlaw13.SuseAgain': WHATEVER THE INPUT: true; the input reads as it did. -/
def suseAgainSpec : ChangeSpec := { name := "suseAgain", fn := fun _ => fun
  | [d] => { results := [.lit (.bool true)], args := [d] }
  | _ => none }
def suseAgainRow : OpenClaim := { program := "ytdhgiammfpjniaagreatdoor", sum := "5254ebd90c8a0f71592eba6059a8f7ac0493b3e6556d454c40fe434d192cd74c", func := "chandler/chandlerlaw13.SuseAgain", spec := "suseAgain", inPlace := ["internal/bytealg.IndexByteString", "internal/bytealg.IndexString", "internal/abi.NoEscape", "internal/bytealg.CountString"], unfollowed := true, recurses := true, named := ["unicode/utf8.first", "unicode/utf8.acceptRanges", "chandler/dep.signs", "chandler/dep.words", "internal/bytealg.MaxLen", "chandler/suse.depTags"], apart := false, laid := [("unicode/utf8.acceptRanges", laid_unicode_utf8_acceptRanges), ("chandler/dep.signs", laid_chandler_dep_signs), ("chandler/dep.words", laid_chandler_dep_words), ("chandler/suse.depTags", laid_chandler_suse_depTags), ("unicode/utf8.first", laid_unicode_utf8_first)] }
def SuseAgainSaid : Prop := suseAgainRow.holds Tryz.pinned (OpenSpec.ofChange suseAgainSpec)

/-- ITS FALSE NEIGHBOUR: 'it returns false'. Refute it at one input. -/
def suseAgainWrong : ChangeSpec := { name := "suseAgain", fn := fun _ => fun
  | [d] => { results := [.lit (.bool false)], args := [d] }
  | _ => none }
def SuseAgainWrongFalsely : Prop := suseAgainRow.holds Tryz.pinned (OpenSpec.ofChange suseAgainWrong)

/-- 'chandlerlaw13.SuseJoins': WHATEVER THE INPUT: true; the input reads as it did. -/
def suseJoinsSpec : ChangeSpec := { name := "suseJoins", fn := fun _ => fun
  | [d1, d2] => { results := [.lit (.bool true)], args := [d1, d2] }
  | _ => none }
def suseJoinsRow : OpenClaim := { program := "ytdhgiammfpjniaagreatdoor", sum := "5254ebd90c8a0f71592eba6059a8f7ac0493b3e6556d454c40fe434d192cd74c", func := "chandler/chandlerlaw13.SuseJoins", spec := "suseJoins", inPlace := ["internal/bytealg.IndexByteString", "internal/bytealg.IndexString"], unfollowed := true, recurses := true, named := ["unicode/utf8.first", "unicode/utf8.acceptRanges", "chandler/dep.signs", "chandler/dep.words", "internal/bytealg.MaxLen"], apart := false, laid := [("unicode/utf8.acceptRanges", laid_unicode_utf8_acceptRanges), ("chandler/dep.signs", laid_chandler_dep_signs), ("chandler/dep.words", laid_chandler_dep_words), ("unicode/utf8.first", laid_unicode_utf8_first)] }
def SuseJoinsSaid : Prop := suseJoinsRow.holds Tryz.pinned (OpenSpec.ofChange suseJoinsSpec)

/-- ITS FALSE NEIGHBOUR: 'it returns false'. Refute it at one input. -/
def suseJoinsWrong : ChangeSpec := { name := "suseJoins", fn := fun _ => fun
  | [d1, d2] => { results := [.lit (.bool false)], args := [d1, d2] }
  | _ => none }
def SuseJoinsWrongFalsely : Prop := suseJoinsRow.holds Tryz.pinned (OpenSpec.ofChange suseJoinsWrong)

/-- 'chandlerlaw13.SuseBlocks': WHATEVER THE INPUT: true; the input reads as it did. -/
def suseBlocksSpec : ChangeSpec := { name := "suseBlocks", fn := fun _ => fun
  | [d1, d2] => { results := [.lit (.bool true)], args := [d1, d2] }
  | _ => none }
def suseBlocksRow : OpenClaim := { program := "ytdhgiammfpjniaagreatdoor", sum := "5254ebd90c8a0f71592eba6059a8f7ac0493b3e6556d454c40fe434d192cd74c", func := "chandler/chandlerlaw13.SuseBlocks", spec := "suseBlocks", inPlace := ["internal/bytealg.IndexByteString", "internal/bytealg.IndexString"], unfollowed := true, recurses := true, named := ["unicode/utf8.first", "unicode/utf8.acceptRanges", "chandler/dep.signs", "chandler/dep.words", "internal/bytealg.MaxLen"], apart := false, laid := [("unicode/utf8.acceptRanges", laid_unicode_utf8_acceptRanges), ("chandler/dep.signs", laid_chandler_dep_signs), ("chandler/dep.words", laid_chandler_dep_words), ("unicode/utf8.first", laid_unicode_utf8_first)] }
def SuseBlocksSaid : Prop := suseBlocksRow.holds Tryz.pinned (OpenSpec.ofChange suseBlocksSpec)

/-- ITS FALSE NEIGHBOUR: 'it returns false'. Refute it at one input. -/
def suseBlocksWrong : ChangeSpec := { name := "suseBlocks", fn := fun _ => fun
  | [d1, d2] => { results := [.lit (.bool false)], args := [d1, d2] }
  | _ => none }
def SuseBlocksWrongFalsely : Prop := suseBlocksRow.holds Tryz.pinned (OpenSpec.ofChange suseBlocksWrong)

/- THE SECOND FORM. 'bulk': how many values and letters a reading holds, each counted each time it is reached (what is shared counts as often as it is met; a slice's spare places count too). A statement '..UptoSaid' is the law's where the arguments, and the package variables that the reading takes, are together of bulk at most 1048576: NARROWER than '..Said'. Prove '..Said' where nothing that the law and all that it calls make is longer than what came in: it says more and counts as full. Else prove '..UptoSaid'. A law counts once. -/
mutual
def uptoBulk {H : Type} : DataW H → Nat
  | .lit (.string bytes) => bytes.length + 1
  | .lit _ => 1
  | .nil => 1
  | .ptr d => uptoBulk d + 1
  | .slice elems spare => uptoBulkAll elems + uptoBulkAll spare + 1
  | .agg parts => uptoBulkAll parts + 1
  | .iface _ d => uptoBulk d + 1
  | .map entries => uptoBulkEntries entries + 1
  | .held _ => 1
def uptoBulkAll {H : Type} : List (DataW H) → Nat
  | [] => 0
  | d :: r => uptoBulk d + uptoBulkAll r
def uptoBulkEntries {H : Type} : List (Lit × DataW H) → Nat
  | [] => 0
  | x :: r => uptoBulkEntry x + uptoBulkEntries r
def uptoBulkEntry {H : Type} : Lit × DataW H → Nat
  | (.string bytes, d) => bytes.length + uptoBulk d + 1
  | (_, d) => uptoBulk d + 1
 end
def uptoSmall : (H : Type) → List (DataW H) → Bool := fun _ ds => decide (uptoBulkAll ds ≤ 1048576)
def OpenSpec.upto (s : _root_.Go.ChangeSpec) : _root_.Go.OpenSpec := { _root_.Go.OpenSpec.ofChange s with cond := some uptoSmall }

/-- 'chandlerlaw12.DebctlReads', WHERE WHAT IT READS IS OF BULK AT MOST 1048576: true; the input reads as it did. -/
def debctlReadsUptoRow : OpenClaim := { program := "ytdhgiammfpjniaagreatdoor", sum := "5254ebd90c8a0f71592eba6059a8f7ac0493b3e6556d454c40fe434d192cd74c", func := "chandler/chandlerlaw12.DebctlReads", spec := "debctlReads", inPlace := ["internal/bytealg.IndexByteString", "internal/bytealg.IndexString", "internal/abi.NoEscape", "internal/bytealg.MakeNoZero", "internal/bytealg.CountString"], unfollowed := true, recurses := true, named := ["internal/bytealg.MaxLen", "unicode/utf8.first", "unicode/utf8.acceptRanges", "chandler/debctl.fields", "chandler/debctl.signs", "chandler/dep.words", "chandler/dep.signs"], apart := false, laid := [("unicode/utf8.acceptRanges", laid_unicode_utf8_acceptRanges), ("chandler/dep.signs", laid_chandler_dep_signs), ("chandler/dep.words", laid_chandler_dep_words), ("chandler/debctl.fields", laid_chandler_debctl_fields), ("chandler/debctl.signs", laid_chandler_debctl_signs), ("unicode/utf8.first", laid_unicode_utf8_first)], narrowed := true }
def DebctlReadsUptoSaid : Prop := debctlReadsUptoRow.holds Tryz.pinned (OpenSpec.upto debctlReadsSpec)

/-- 'chandlerlaw12.DebctlAgain', WHERE WHAT IT READS IS OF BULK AT MOST 1048576: true; the input reads as it did. -/
def debctlAgainUptoRow : OpenClaim := { program := "ytdhgiammfpjniaagreatdoor", sum := "5254ebd90c8a0f71592eba6059a8f7ac0493b3e6556d454c40fe434d192cd74c", func := "chandler/chandlerlaw12.DebctlAgain", spec := "debctlAgain", inPlace := ["internal/bytealg.IndexByteString", "internal/bytealg.IndexString", "internal/abi.NoEscape", "internal/bytealg.MakeNoZero", "internal/bytealg.CountString"], unfollowed := true, recurses := true, named := ["internal/bytealg.MaxLen", "unicode/utf8.first", "unicode/utf8.acceptRanges", "chandler/debctl.fields", "chandler/debctl.signs", "chandler/dep.words", "chandler/dep.signs"], apart := false, laid := [("unicode/utf8.acceptRanges", laid_unicode_utf8_acceptRanges), ("chandler/dep.signs", laid_chandler_dep_signs), ("chandler/dep.words", laid_chandler_dep_words), ("chandler/debctl.fields", laid_chandler_debctl_fields), ("chandler/debctl.signs", laid_chandler_debctl_signs), ("unicode/utf8.first", laid_unicode_utf8_first)], narrowed := true }
def DebctlAgainUptoSaid : Prop := debctlAgainUptoRow.holds Tryz.pinned (OpenSpec.upto debctlAgainSpec)

/-- 'chandlerlaw12.DebctlJoins', WHERE WHAT IT READS IS OF BULK AT MOST 1048576: true; the input reads as it did. -/
def debctlJoinsUptoRow : OpenClaim := { program := "ytdhgiammfpjniaagreatdoor", sum := "5254ebd90c8a0f71592eba6059a8f7ac0493b3e6556d454c40fe434d192cd74c", func := "chandler/chandlerlaw12.DebctlJoins", spec := "debctlJoins", inPlace := ["internal/bytealg.IndexByteString", "internal/bytealg.IndexString", "internal/abi.NoEscape", "internal/bytealg.MakeNoZero", "internal/bytealg.CountString"], unfollowed := true, recurses := true, named := ["internal/bytealg.MaxLen", "unicode/utf8.first", "unicode/utf8.acceptRanges", "chandler/debctl.fields", "chandler/debctl.signs", "chandler/dep.words", "chandler/dep.signs"], apart := false, laid := [("unicode/utf8.acceptRanges", laid_unicode_utf8_acceptRanges), ("chandler/dep.signs", laid_chandler_dep_signs), ("chandler/dep.words", laid_chandler_dep_words), ("chandler/debctl.fields", laid_chandler_debctl_fields), ("chandler/debctl.signs", laid_chandler_debctl_signs), ("unicode/utf8.first", laid_unicode_utf8_first)], narrowed := true }
def DebctlJoinsUptoSaid : Prop := debctlJoinsUptoRow.holds Tryz.pinned (OpenSpec.upto debctlJoinsSpec)

/-- 'chandlerlaw13.SuseNames', WHERE WHAT IT READS IS OF BULK AT MOST 1048576: true; the input reads as it did. -/
def suseNamesUptoRow : OpenClaim := { program := "ytdhgiammfpjniaagreatdoor", sum := "5254ebd90c8a0f71592eba6059a8f7ac0493b3e6556d454c40fe434d192cd74c", func := "chandler/chandlerlaw13.SuseNames", spec := "suseNames", inPlace := ["internal/bytealg.IndexByteString", "internal/bytealg.IndexString"], unfollowed := true, recurses := true, named := ["unicode/utf8.first", "unicode/utf8.acceptRanges", "chandler/dep.signs", "chandler/dep.words", "internal/bytealg.MaxLen"], apart := false, laid := [("unicode/utf8.acceptRanges", laid_unicode_utf8_acceptRanges), ("chandler/dep.signs", laid_chandler_dep_signs), ("chandler/dep.words", laid_chandler_dep_words), ("unicode/utf8.first", laid_unicode_utf8_first)], narrowed := true }
def SuseNamesUptoSaid : Prop := suseNamesUptoRow.holds Tryz.pinned (OpenSpec.upto suseNamesSpec)

/-- 'chandlerlaw13.SuseReads', WHERE WHAT IT READS IS OF BULK AT MOST 1048576: true; the input reads as it did. -/
def suseReadsUptoRow : OpenClaim := { program := "ytdhgiammfpjniaagreatdoor", sum := "5254ebd90c8a0f71592eba6059a8f7ac0493b3e6556d454c40fe434d192cd74c", func := "chandler/chandlerlaw13.SuseReads", spec := "suseReads", inPlace := ["internal/bytealg.IndexByteString", "internal/bytealg.IndexString"], unfollowed := true, recurses := true, named := ["unicode/utf8.first", "unicode/utf8.acceptRanges", "chandler/dep.signs", "chandler/dep.words", "internal/bytealg.MaxLen"], apart := false, laid := [("unicode/utf8.acceptRanges", laid_unicode_utf8_acceptRanges), ("chandler/dep.signs", laid_chandler_dep_signs), ("chandler/dep.words", laid_chandler_dep_words), ("unicode/utf8.first", laid_unicode_utf8_first)], narrowed := true }
def SuseReadsUptoSaid : Prop := suseReadsUptoRow.holds Tryz.pinned (OpenSpec.upto suseReadsSpec)

/-- 'chandlerlaw13.SuseAgain', WHERE WHAT IT READS IS OF BULK AT MOST 1048576: true; the input reads as it did. -/
def suseAgainUptoRow : OpenClaim := { program := "ytdhgiammfpjniaagreatdoor", sum := "5254ebd90c8a0f71592eba6059a8f7ac0493b3e6556d454c40fe434d192cd74c", func := "chandler/chandlerlaw13.SuseAgain", spec := "suseAgain", inPlace := ["internal/bytealg.IndexByteString", "internal/bytealg.IndexString", "internal/abi.NoEscape", "internal/bytealg.CountString"], unfollowed := true, recurses := true, named := ["unicode/utf8.first", "unicode/utf8.acceptRanges", "chandler/dep.signs", "chandler/dep.words", "internal/bytealg.MaxLen", "chandler/suse.depTags"], apart := false, laid := [("unicode/utf8.acceptRanges", laid_unicode_utf8_acceptRanges), ("chandler/dep.signs", laid_chandler_dep_signs), ("chandler/dep.words", laid_chandler_dep_words), ("chandler/suse.depTags", laid_chandler_suse_depTags), ("unicode/utf8.first", laid_unicode_utf8_first)], narrowed := true }
def SuseAgainUptoSaid : Prop := suseAgainUptoRow.holds Tryz.pinned (OpenSpec.upto suseAgainSpec)

/-- 'chandlerlaw13.SuseJoins', WHERE WHAT IT READS IS OF BULK AT MOST 1048576: true; the input reads as it did. -/
def suseJoinsUptoRow : OpenClaim := { program := "ytdhgiammfpjniaagreatdoor", sum := "5254ebd90c8a0f71592eba6059a8f7ac0493b3e6556d454c40fe434d192cd74c", func := "chandler/chandlerlaw13.SuseJoins", spec := "suseJoins", inPlace := ["internal/bytealg.IndexByteString", "internal/bytealg.IndexString"], unfollowed := true, recurses := true, named := ["unicode/utf8.first", "unicode/utf8.acceptRanges", "chandler/dep.signs", "chandler/dep.words", "internal/bytealg.MaxLen"], apart := false, laid := [("unicode/utf8.acceptRanges", laid_unicode_utf8_acceptRanges), ("chandler/dep.signs", laid_chandler_dep_signs), ("chandler/dep.words", laid_chandler_dep_words), ("unicode/utf8.first", laid_unicode_utf8_first)], narrowed := true }
def SuseJoinsUptoSaid : Prop := suseJoinsUptoRow.holds Tryz.pinned (OpenSpec.upto suseJoinsSpec)

/-- 'chandlerlaw13.SuseBlocks', WHERE WHAT IT READS IS OF BULK AT MOST 1048576: true; the input reads as it did. -/
def suseBlocksUptoRow : OpenClaim := { program := "ytdhgiammfpjniaagreatdoor", sum := "5254ebd90c8a0f71592eba6059a8f7ac0493b3e6556d454c40fe434d192cd74c", func := "chandler/chandlerlaw13.SuseBlocks", spec := "suseBlocks", inPlace := ["internal/bytealg.IndexByteString", "internal/bytealg.IndexString"], unfollowed := true, recurses := true, named := ["unicode/utf8.first", "unicode/utf8.acceptRanges", "chandler/dep.signs", "chandler/dep.words", "internal/bytealg.MaxLen"], apart := false, laid := [("unicode/utf8.acceptRanges", laid_unicode_utf8_acceptRanges), ("chandler/dep.signs", laid_chandler_dep_signs), ("chandler/dep.words", laid_chandler_dep_words), ("unicode/utf8.first", laid_unicode_utf8_first)], narrowed := true }
def SuseBlocksUptoSaid : Prop := suseBlocksUptoRow.holds Tryz.pinned (OpenSpec.upto suseBlocksSpec)

end Rows
end Go.Proofs.YtdhgiammfpjniaaGreatDoor
