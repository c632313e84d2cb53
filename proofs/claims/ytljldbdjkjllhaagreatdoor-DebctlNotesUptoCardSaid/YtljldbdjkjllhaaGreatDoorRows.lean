/-
  NARROWER THAN 'FOR EVERY INPUT', by the rows' own cells (each row's printed sentence says how): RpmmdNames: laid · RpmmdApart: laid · RpmmdTypes: laid · DebctlNames: laid · DebctlReads: laid · DebctlAgain: laid · DebctlJoins: laid · DebctlNotes: laid.
  DERIVED. THE GIVEN ROWS OF THIS SEAT. 8 by the template 'for every input the law returns true; each argument reads behind the call as it read before'; 0 by the template 'total and deterministic' (their statements: YtljldbdjkjllhaaGreatDoorTotals.lean).
  GIVEN WITH THE SEED: the statements are not yours to turn. If you find one false, say at which input.
  Laid BY PROGRAM, IN A SANDBOX (cutbox-rows.mjs): the forced cells as the released guide's own fill.sh prints them over the translation 882b8133de9e7d49… (all of the seat's roots in one cut). By AI agents, Wed Nov 11 2026. No macro, syntax, notation, axiom, sorry.
-/
import Derived.Test.YtljldbdjkjllhaaGreatDoorChecked
import GoSem.PinnedTables
import GoSem.Claim
import GoSem.ClaimJoined
import GoSem.ClaimMapViews
import Derived.JoinedTies
import Derived.KernelRfl
namespace Go.Proofs.YtljldbdjkjllhaaGreatDoor
/- THE CELL 'sum', in the pinned program and in every row, IS THE sha256 OF THE DUMP (.gsa) THAT YtljldbdjkjllhaaGreatDoorProg.lean LOADS. Nothing in Lean hashes anything: it is a label: what it is worth is what the hold of that sum in a sandbox is worth. -/
noncomputable def Tryz.pinned : Pinned := { name := "ytljldbdjkjllhaagreatdoor", sum := "882b8133de9e7d49df5b109b60ff0089262fc1a442602348e3f856fcdbc2d003", checked := Tryz.checked }
namespace Rows
def none {H : Type} : Left H := { results := [], args := [] }

/- WHAT THE LISTED PACKAGE-LEVEL VARIABLES READ AS WHEN THE CALL BEGINS. Each datum BY PROGRAM (the guide's laid-datum.mjs) off the statement by which the dump's own 'gosem.cut.vars' lays the variable. In a bare row this is a premise. The card (YtljldbdjkjllhaaGreatDoorCards.lean) ties it to the program's text. -/
def laid_math_bits_deBruijn32tab {H : Type} : DataW H := .agg [.lit (.int .u8 0), .lit (.int .u8 1), .lit (.int .u8 28), .lit (.int .u8 2), .lit (.int .u8 29), .lit (.int .u8 14), .lit (.int .u8 24), .lit (.int .u8 3), .lit (.int .u8 30), .lit (.int .u8 22), .lit (.int .u8 20), .lit (.int .u8 15), .lit (.int .u8 25), .lit (.int .u8 17), .lit (.int .u8 4), .lit (.int .u8 8), .lit (.int .u8 31), .lit (.int .u8 27), .lit (.int .u8 13), .lit (.int .u8 23), .lit (.int .u8 21), .lit (.int .u8 19), .lit (.int .u8 16), .lit (.int .u8 7), .lit (.int .u8 26), .lit (.int .u8 12), .lit (.int .u8 18), .lit (.int .u8 6), .lit (.int .u8 11), .lit (.int .u8 5), .lit (.int .u8 10), .lit (.int .u8 9)]
def laid_math_bits_deBruijn64tab {H : Type} : DataW H := .agg [.lit (.int .u8 0), .lit (.int .u8 1), .lit (.int .u8 56), .lit (.int .u8 2), .lit (.int .u8 57), .lit (.int .u8 49), .lit (.int .u8 28), .lit (.int .u8 3), .lit (.int .u8 61), .lit (.int .u8 58), .lit (.int .u8 42), .lit (.int .u8 50), .lit (.int .u8 38), .lit (.int .u8 29), .lit (.int .u8 17), .lit (.int .u8 4), .lit (.int .u8 62), .lit (.int .u8 47), .lit (.int .u8 59), .lit (.int .u8 36), .lit (.int .u8 45), .lit (.int .u8 43), .lit (.int .u8 51), .lit (.int .u8 22), .lit (.int .u8 53), .lit (.int .u8 39), .lit (.int .u8 33), .lit (.int .u8 30), .lit (.int .u8 24), .lit (.int .u8 18), .lit (.int .u8 12), .lit (.int .u8 5), .lit (.int .u8 63), .lit (.int .u8 55), .lit (.int .u8 48), .lit (.int .u8 27), .lit (.int .u8 60), .lit (.int .u8 41), .lit (.int .u8 37), .lit (.int .u8 16), .lit (.int .u8 46), .lit (.int .u8 35), .lit (.int .u8 44), .lit (.int .u8 21), .lit (.int .u8 52), .lit (.int .u8 32), .lit (.int .u8 23), .lit (.int .u8 11), .lit (.int .u8 54), .lit (.int .u8 26), .lit (.int .u8 40), .lit (.int .u8 15), .lit (.int .u8 34), .lit (.int .u8 20), .lit (.int .u8 31), .lit (.int .u8 10), .lit (.int .u8 25), .lit (.int .u8 14), .lit (.int .u8 19), .lit (.int .u8 9), .lit (.int .u8 13), .lit (.int .u8 8), .lit (.int .u8 7), .lit (.int .u8 6)]
def laid_internal_strconv_uint64pow10 {H : Type} : DataW H := .agg [.lit (.int .u64 1), .lit (.int .u64 10), .lit (.int .u64 100), .lit (.int .u64 1000), .lit (.int .u64 10000), .lit (.int .u64 100000), .lit (.int .u64 1000000), .lit (.int .u64 10000000), .lit (.int .u64 100000000), .lit (.int .u64 1000000000), .lit (.int .u64 10000000000), .lit (.int .u64 100000000000), .lit (.int .u64 1000000000000), .lit (.int .u64 10000000000000), .lit (.int .u64 100000000000000), .lit (.int .u64 1000000000000000), .lit (.int .u64 10000000000000000), .lit (.int .u64 100000000000000000), .lit (.int .u64 1000000000000000000), .lit (.int .u64 10000000000000000000)]
def laid_unicode_utf8_acceptRanges {H : Type} : DataW H := .agg [.agg [.lit (.int .u8 128), .lit (.int .u8 191)], .agg [.lit (.int .u8 160), .lit (.int .u8 191)], .agg [.lit (.int .u8 128), .lit (.int .u8 159)], .agg [.lit (.int .u8 144), .lit (.int .u8 191)], .agg [.lit (.int .u8 128), .lit (.int .u8 143)], .agg [.lit (.int .u8 0), .lit (.int .u8 0)], .agg [.lit (.int .u8 0), .lit (.int .u8 0)], .agg [.lit (.int .u8 0), .lit (.int .u8 0)], .agg [.lit (.int .u8 0), .lit (.int .u8 0)], .agg [.lit (.int .u8 0), .lit (.int .u8 0)], .agg [.lit (.int .u8 0), .lit (.int .u8 0)], .agg [.lit (.int .u8 0), .lit (.int .u8 0)], .agg [.lit (.int .u8 0), .lit (.int .u8 0)], .agg [.lit (.int .u8 0), .lit (.int .u8 0)], .agg [.lit (.int .u8 0), .lit (.int .u8 0)], .agg [.lit (.int .u8 0), .lit (.int .u8 0)]]
def laid_strconv_ErrRange {H : Type} : DataW H := .iface "*errors.errorString" (.ptr (.agg [.lit (.string [118, 97, 108, 117, 101, 32, 111, 117, 116, 32, 111, 102, 32, 114, 97, 110, 103, 101])]))
def laid_strconv_ErrSyntax {H : Type} : DataW H := .iface "*errors.errorString" (.ptr (.agg [.lit (.string [105, 110, 118, 97, 108, 105, 100, 32, 115, 121, 110, 116, 97, 120])]))
def laid_chandler_dep_signs {H : Type} : DataW H := .agg [.lit (.string []), .lit (.string [60]), .lit (.string [61]), .lit (.string [60, 61]), .lit (.string [62]), .lit (.string [60, 62]), .lit (.string [62, 61]), .lit (.string [60, 61, 62])]
def laid_chandler_dep_words {H : Type} : DataW H := .agg [.lit (.string []), .lit (.string []), .lit (.string [97, 110, 100]), .lit (.string [111, 114]), .lit (.string [105, 102]), .lit (.string [119, 105, 116, 104]), .lit (.string [119, 105, 116, 104, 111, 117, 116]), .lit (.string [])]
def laid_chandler_xmlpull_entities {H : Type} : DataW H := .agg [.agg [.lit (.string [108, 116]), .lit (.int .u8 60)], .agg [.lit (.string [103, 116]), .lit (.int .u8 62)], .agg [.lit (.string [97, 109, 112]), .lit (.int .u8 38)], .agg [.lit (.string [113, 117, 111, 116]), .lit (.int .u8 34)], .agg [.lit (.string [97, 112, 111, 115]), .lit (.int .u8 39)]]
def laid_chandler_rpmmd_flags {H : Type} : DataW H := .agg [.lit (.string []), .lit (.string [76, 84]), .lit (.string [69, 81]), .lit (.string [76, 69]), .lit (.string [71, 84]), .lit (.string []), .lit (.string [71, 69]), .lit (.string [])]
/-- One of Go's own tables, pinned by name: the form's constant. -/
def laid_unicode_utf8_first : DataW Unit := Go.Pinned.utf8First
def laid_chandler_debctl_fields {H : Type} : DataW H := .agg [.lit (.string [80, 97, 99, 107, 97, 103, 101]), .lit (.string [86, 101, 114, 115, 105, 111, 110]), .lit (.string [65, 114, 99, 104, 105, 116, 101, 99, 116, 117, 114, 101]), .lit (.string [79, 114, 105, 103, 105, 110]), .lit (.string [80, 114, 111, 118, 105, 100, 101, 115]), .lit (.string [68, 101, 112, 101, 110, 100, 115]), .lit (.string [80, 114, 101, 45, 68, 101, 112, 101, 110, 100, 115]), .lit (.string [67, 111, 110, 102, 108, 105, 99, 116, 115]), .lit (.string [66, 114, 101, 97, 107, 115]), .lit (.string [82, 101, 112, 108, 97, 99, 101, 115]), .lit (.string [82, 101, 99, 111, 109, 109, 101, 110, 100, 115]), .lit (.string [69, 110, 104, 97, 110, 99, 101, 115])]
def laid_chandler_debctl_signs {H : Type} : DataW H := .agg [.lit (.string []), .lit (.string [60, 60]), .lit (.string [61]), .lit (.string [60, 61]), .lit (.string [62, 62]), .lit (.string []), .lit (.string [62, 61]), .lit (.string [])]

/-- 'chandlerlaw11.RpmmdNames': WHATEVER THE INPUT: true; the input reads as it did. -/
def rpmmdNamesSpec : ChangeSpec := { name := "rpmmdNames", fn := fun _ => fun
  | [] => { results := [.lit (.bool true)], args := [] }
  | _ => none }
def rpmmdNamesRow : OpenClaim := { program := "ytljldbdjkjllhaagreatdoor", sum := "882b8133de9e7d49df5b109b60ff0089262fc1a442602348e3f856fcdbc2d003", func := "chandler/chandlerlaw11.RpmmdNames", spec := "rpmmdNames", inPlace := ["internal/bytealg.IndexByteString", "internal/bytealg.IndexString"], unfollowed := true, recurses := true, named := ["internal/bytealg.MaxLen", "chandler/xmlpull.entities", "strconv.ErrSyntax", "strconv.ErrRange", "internal/strconv.uint64pow10", "math/bits.deBruijn32tab", "math/bits.deBruijn64tab", "unicode/utf8.first", "unicode/utf8.acceptRanges", "chandler/dep.words", "chandler/dep.signs", "chandler/rpmmd.flags"], apart := false, laid := [("math/bits.deBruijn32tab", laid_math_bits_deBruijn32tab), ("math/bits.deBruijn64tab", laid_math_bits_deBruijn64tab), ("internal/strconv.uint64pow10", laid_internal_strconv_uint64pow10), ("unicode/utf8.acceptRanges", laid_unicode_utf8_acceptRanges), ("strconv.ErrRange", laid_strconv_ErrRange), ("strconv.ErrSyntax", laid_strconv_ErrSyntax), ("chandler/dep.signs", laid_chandler_dep_signs), ("chandler/dep.words", laid_chandler_dep_words), ("chandler/xmlpull.entities", laid_chandler_xmlpull_entities), ("chandler/rpmmd.flags", laid_chandler_rpmmd_flags), ("unicode/utf8.first", laid_unicode_utf8_first)] }
def RpmmdNamesSaid : Prop := rpmmdNamesRow.holds Tryz.pinned (OpenSpec.ofChange rpmmdNamesSpec)

/-- ITS FALSE NEIGHBOUR: 'it returns false'. Refute it at one input. -/
def rpmmdNamesWrong : ChangeSpec := { name := "rpmmdNames", fn := fun _ => fun
  | [] => { results := [.lit (.bool false)], args := [] }
  | _ => none }
def RpmmdNamesWrongFalsely : Prop := rpmmdNamesRow.holds Tryz.pinned (OpenSpec.ofChange rpmmdNamesWrong)

/-- 'chandlerlaw11.RpmmdApart': WHATEVER THE INPUT: true; the input reads as it did. -/
def rpmmdApartSpec : ChangeSpec := { name := "rpmmdApart", fn := fun _ => fun
  | [d1, d2, d3, d4] => { results := [.lit (.bool true)], args := [d1, d2, d3, d4] }
  | _ => none }
def rpmmdApartRow : OpenClaim := { program := "ytljldbdjkjllhaagreatdoor", sum := "882b8133de9e7d49df5b109b60ff0089262fc1a442602348e3f856fcdbc2d003", func := "chandler/chandlerlaw11.RpmmdApart", spec := "rpmmdApart", inPlace := ["internal/bytealg.IndexByteString", "internal/bytealg.IndexString", "internal/abi.NoEscape"], unfollowed := true, recurses := true, named := ["internal/bytealg.MaxLen", "chandler/xmlpull.entities", "strconv.ErrSyntax", "strconv.ErrRange", "internal/strconv.uint64pow10", "math/bits.deBruijn32tab", "math/bits.deBruijn64tab", "unicode/utf8.first", "unicode/utf8.acceptRanges", "chandler/dep.words", "chandler/dep.signs", "chandler/rpmmd.flags"], apart := false, laid := [("math/bits.deBruijn32tab", laid_math_bits_deBruijn32tab), ("math/bits.deBruijn64tab", laid_math_bits_deBruijn64tab), ("internal/strconv.uint64pow10", laid_internal_strconv_uint64pow10), ("unicode/utf8.acceptRanges", laid_unicode_utf8_acceptRanges), ("strconv.ErrRange", laid_strconv_ErrRange), ("strconv.ErrSyntax", laid_strconv_ErrSyntax), ("chandler/dep.signs", laid_chandler_dep_signs), ("chandler/dep.words", laid_chandler_dep_words), ("chandler/xmlpull.entities", laid_chandler_xmlpull_entities), ("chandler/rpmmd.flags", laid_chandler_rpmmd_flags), ("unicode/utf8.first", laid_unicode_utf8_first)] }
def RpmmdApartSaid : Prop := rpmmdApartRow.holds Tryz.pinned (OpenSpec.ofChange rpmmdApartSpec)

/-- ITS FALSE NEIGHBOUR: 'it returns false'. Refute it at one input. -/
def rpmmdApartWrong : ChangeSpec := { name := "rpmmdApart", fn := fun _ => fun
  | [d1, d2, d3, d4] => { results := [.lit (.bool false)], args := [d1, d2, d3, d4] }
  | _ => none }
def RpmmdApartWrongFalsely : Prop := rpmmdApartRow.holds Tryz.pinned (OpenSpec.ofChange rpmmdApartWrong)

/-- 'chandlerlaw11.RpmmdTypes': WHATEVER THE INPUT: true; the input reads as it did. -/
def rpmmdTypesSpec : ChangeSpec := { name := "rpmmdTypes", fn := fun _ => fun
  | [d1, d2, d3, d4] => { results := [.lit (.bool true)], args := [d1, d2, d3, d4] }
  | _ => none }
def rpmmdTypesRow : OpenClaim := { program := "ytljldbdjkjllhaagreatdoor", sum := "882b8133de9e7d49df5b109b60ff0089262fc1a442602348e3f856fcdbc2d003", func := "chandler/chandlerlaw11.RpmmdTypes", spec := "rpmmdTypes", inPlace := ["internal/bytealg.IndexByteString", "internal/bytealg.IndexString", "internal/abi.NoEscape"], unfollowed := true, recurses := true, named := ["internal/bytealg.MaxLen", "chandler/xmlpull.entities", "strconv.ErrSyntax", "strconv.ErrRange", "internal/strconv.uint64pow10", "math/bits.deBruijn32tab", "math/bits.deBruijn64tab", "unicode/utf8.first", "unicode/utf8.acceptRanges", "chandler/dep.words", "chandler/dep.signs", "chandler/rpmmd.flags"], apart := false, laid := [("math/bits.deBruijn32tab", laid_math_bits_deBruijn32tab), ("math/bits.deBruijn64tab", laid_math_bits_deBruijn64tab), ("internal/strconv.uint64pow10", laid_internal_strconv_uint64pow10), ("unicode/utf8.acceptRanges", laid_unicode_utf8_acceptRanges), ("strconv.ErrRange", laid_strconv_ErrRange), ("strconv.ErrSyntax", laid_strconv_ErrSyntax), ("chandler/dep.signs", laid_chandler_dep_signs), ("chandler/dep.words", laid_chandler_dep_words), ("chandler/xmlpull.entities", laid_chandler_xmlpull_entities), ("chandler/rpmmd.flags", laid_chandler_rpmmd_flags), ("unicode/utf8.first", laid_unicode_utf8_first)] }
def RpmmdTypesSaid : Prop := rpmmdTypesRow.holds Tryz.pinned (OpenSpec.ofChange rpmmdTypesSpec)

/-- ITS FALSE NEIGHBOUR: 'it returns false'. Refute it at one input. -/
def rpmmdTypesWrong : ChangeSpec := { name := "rpmmdTypes", fn := fun _ => fun
  | [d1, d2, d3, d4] => { results := [.lit (.bool false)], args := [d1, d2, d3, d4] }
  | _ => none }
def RpmmdTypesWrongFalsely : Prop := rpmmdTypesRow.holds Tryz.pinned (OpenSpec.ofChange rpmmdTypesWrong)

/-- 'chandlerlaw12.DebctlNames': WHATEVER THE INPUT: true; the input reads as it did. -/
def debctlNamesSpec : ChangeSpec := { name := "debctlNames", fn := fun _ => fun
  | [] => { results := [.lit (.bool true)], args := [] }
  | _ => none }
def debctlNamesRow : OpenClaim := { program := "ytljldbdjkjllhaagreatdoor", sum := "882b8133de9e7d49df5b109b60ff0089262fc1a442602348e3f856fcdbc2d003", func := "chandler/chandlerlaw12.DebctlNames", spec := "debctlNames", inPlace := ["internal/bytealg.IndexByteString", "internal/bytealg.IndexString", "internal/abi.NoEscape", "internal/bytealg.MakeNoZero", "internal/bytealg.CountString"], unfollowed := true, recurses := true, named := ["internal/bytealg.MaxLen", "unicode/utf8.first", "unicode/utf8.acceptRanges", "chandler/debctl.fields", "chandler/debctl.signs", "chandler/dep.words", "chandler/dep.signs"], apart := false, laid := [("unicode/utf8.acceptRanges", laid_unicode_utf8_acceptRanges), ("chandler/dep.signs", laid_chandler_dep_signs), ("chandler/dep.words", laid_chandler_dep_words), ("chandler/debctl.fields", laid_chandler_debctl_fields), ("chandler/debctl.signs", laid_chandler_debctl_signs), ("unicode/utf8.first", laid_unicode_utf8_first)] }
def DebctlNamesSaid : Prop := debctlNamesRow.holds Tryz.pinned (OpenSpec.ofChange debctlNamesSpec)

/-- ITS FALSE NEIGHBOUR: 'it returns false'. Refute it at one input. -/
def debctlNamesWrong : ChangeSpec := { name := "debctlNames", fn := fun _ => fun
  | [] => { results := [.lit (.bool false)], args := [] }
  | _ => none }
def DebctlNamesWrongFalsely : Prop := debctlNamesRow.holds Tryz.pinned (OpenSpec.ofChange debctlNamesWrong)

/-- 'chandlerlaw12.DebctlReads': WHATEVER THE INPUT: true; the input reads as it did. -/
def debctlReadsSpec : ChangeSpec := { name := "debctlReads", fn := fun _ => fun
  | [d] => { results := [.lit (.bool true)], args := [d] }
  | _ => none }
def debctlReadsRow : OpenClaim := { program := "ytljldbdjkjllhaagreatdoor", sum := "882b8133de9e7d49df5b109b60ff0089262fc1a442602348e3f856fcdbc2d003", func := "chandler/chandlerlaw12.DebctlReads", spec := "debctlReads", inPlace := ["internal/bytealg.IndexByteString", "internal/bytealg.IndexString", "internal/abi.NoEscape", "internal/bytealg.MakeNoZero", "internal/bytealg.CountString"], unfollowed := true, recurses := true, named := ["internal/bytealg.MaxLen", "unicode/utf8.first", "unicode/utf8.acceptRanges", "chandler/debctl.fields", "chandler/debctl.signs", "chandler/dep.words", "chandler/dep.signs"], apart := false, laid := [("unicode/utf8.acceptRanges", laid_unicode_utf8_acceptRanges), ("chandler/dep.signs", laid_chandler_dep_signs), ("chandler/dep.words", laid_chandler_dep_words), ("chandler/debctl.fields", laid_chandler_debctl_fields), ("chandler/debctl.signs", laid_chandler_debctl_signs), ("unicode/utf8.first", laid_unicode_utf8_first)] }
def DebctlReadsSaid : Prop := debctlReadsRow.holds Tryz.pinned (OpenSpec.ofChange debctlReadsSpec)

/-- ITS FALSE NEIGHBOUR: 'it returns false'. Refute it at one input. -/
def debctlReadsWrong : ChangeSpec := { name := "debctlReads", fn := fun _ => fun
  | [d] => { results := [.lit (.bool false)], args := [d] }
  | _ => none }
def DebctlReadsWrongFalsely : Prop := debctlReadsRow.holds Tryz.pinned (OpenSpec.ofChange debctlReadsWrong)

/-- 'chandlerlaw12.DebctlAgain': WHATEVER THE INPUT: true; the input reads as it did. -/
def debctlAgainSpec : ChangeSpec := { name := "debctlAgain", fn := fun _ => fun
  | [d] => { results := [.lit (.bool true)], args := [d] }
  | _ => none }
def debctlAgainRow : OpenClaim := { program := "ytljldbdjkjllhaagreatdoor", sum := "882b8133de9e7d49df5b109b60ff0089262fc1a442602348e3f856fcdbc2d003", func := "chandler/chandlerlaw12.DebctlAgain", spec := "debctlAgain", inPlace := ["internal/bytealg.IndexByteString", "internal/bytealg.IndexString", "internal/abi.NoEscape", "internal/bytealg.MakeNoZero", "internal/bytealg.CountString"], unfollowed := true, recurses := true, named := ["internal/bytealg.MaxLen", "unicode/utf8.first", "unicode/utf8.acceptRanges", "chandler/debctl.fields", "chandler/debctl.signs", "chandler/dep.words", "chandler/dep.signs"], apart := false, laid := [("unicode/utf8.acceptRanges", laid_unicode_utf8_acceptRanges), ("chandler/dep.signs", laid_chandler_dep_signs), ("chandler/dep.words", laid_chandler_dep_words), ("chandler/debctl.fields", laid_chandler_debctl_fields), ("chandler/debctl.signs", laid_chandler_debctl_signs), ("unicode/utf8.first", laid_unicode_utf8_first)] }
def DebctlAgainSaid : Prop := debctlAgainRow.holds Tryz.pinned (OpenSpec.ofChange debctlAgainSpec)

/-- ITS FALSE NEIGHBOUR: 'it returns false'. Refute it at one input. -/
def debctlAgainWrong : ChangeSpec := { name := "debctlAgain", fn := fun _ => fun
  | [d] => { results := [.lit (.bool false)], args := [d] }
  | _ => none }
def DebctlAgainWrongFalsely : Prop := debctlAgainRow.holds Tryz.pinned (OpenSpec.ofChange debctlAgainWrong)

/-- 'chandlerlaw12.DebctlJoins': WHATEVER THE INPUT: true; the input reads as it did. -/
def debctlJoinsSpec : ChangeSpec := { name := "debctlJoins", fn := fun _ => fun
  | [d1, d2] => { results := [.lit (.bool true)], args := [d1, d2] }
  | _ => none }
def debctlJoinsRow : OpenClaim := { program := "ytljldbdjkjllhaagreatdoor", sum := "882b8133de9e7d49df5b109b60ff0089262fc1a442602348e3f856fcdbc2d003", func := "chandler/chandlerlaw12.DebctlJoins", spec := "debctlJoins", inPlace := ["internal/bytealg.IndexByteString", "internal/bytealg.IndexString", "internal/abi.NoEscape", "internal/bytealg.MakeNoZero", "internal/bytealg.CountString"], unfollowed := true, recurses := true, named := ["internal/bytealg.MaxLen", "unicode/utf8.first", "unicode/utf8.acceptRanges", "chandler/debctl.fields", "chandler/debctl.signs", "chandler/dep.words", "chandler/dep.signs"], apart := false, laid := [("unicode/utf8.acceptRanges", laid_unicode_utf8_acceptRanges), ("chandler/dep.signs", laid_chandler_dep_signs), ("chandler/dep.words", laid_chandler_dep_words), ("chandler/debctl.fields", laid_chandler_debctl_fields), ("chandler/debctl.signs", laid_chandler_debctl_signs), ("unicode/utf8.first", laid_unicode_utf8_first)] }
def DebctlJoinsSaid : Prop := debctlJoinsRow.holds Tryz.pinned (OpenSpec.ofChange debctlJoinsSpec)

/-- ITS FALSE NEIGHBOUR: 'it returns false'. Refute it at one input. -/
def debctlJoinsWrong : ChangeSpec := { name := "debctlJoins", fn := fun _ => fun
  | [d1, d2] => { results := [.lit (.bool false)], args := [d1, d2] }
  | _ => none }
def DebctlJoinsWrongFalsely : Prop := debctlJoinsRow.holds Tryz.pinned (OpenSpec.ofChange debctlJoinsWrong)

/-- 'chandlerlaw12.DebctlNotes': WHATEVER THE INPUT: true; the input reads as it did. -/
def debctlNotesSpec : ChangeSpec := { name := "debctlNotes", fn := fun _ => fun
  | [d1, d2, d3] => { results := [.lit (.bool true)], args := [d1, d2, d3] }
  | _ => none }
def debctlNotesRow : OpenClaim := { program := "ytljldbdjkjllhaagreatdoor", sum := "882b8133de9e7d49df5b109b60ff0089262fc1a442602348e3f856fcdbc2d003", func := "chandler/chandlerlaw12.DebctlNotes", spec := "debctlNotes", inPlace := ["internal/bytealg.IndexByteString", "internal/bytealg.IndexString", "internal/abi.NoEscape", "internal/bytealg.MakeNoZero", "internal/bytealg.CountString"], unfollowed := true, recurses := true, named := ["internal/bytealg.MaxLen", "unicode/utf8.first", "unicode/utf8.acceptRanges", "chandler/debctl.fields", "chandler/debctl.signs", "chandler/dep.words", "chandler/dep.signs"], apart := false, laid := [("unicode/utf8.acceptRanges", laid_unicode_utf8_acceptRanges), ("chandler/dep.signs", laid_chandler_dep_signs), ("chandler/dep.words", laid_chandler_dep_words), ("chandler/debctl.fields", laid_chandler_debctl_fields), ("chandler/debctl.signs", laid_chandler_debctl_signs), ("unicode/utf8.first", laid_unicode_utf8_first)] }
def DebctlNotesSaid : Prop := debctlNotesRow.holds Tryz.pinned (OpenSpec.ofChange debctlNotesSpec)

/-- ITS FALSE NEIGHBOUR: 'it returns false'. Refute it at one input. -/
def debctlNotesWrong : ChangeSpec := { name := "debctlNotes", fn := fun _ => fun
  | [d1, d2, d3] => { results := [.lit (.bool false)], args := [d1, d2, d3] }
  | _ => none }
def DebctlNotesWrongFalsely : Prop := debctlNotesRow.holds Tryz.pinned (OpenSpec.ofChange debctlNotesWrong)

/- THE SECOND FORM. 'bulk': how many values and letters a reading holds, each counted each time it is reached (what is shared counts as often as it is met; a slice's spare places count too). A statement '..UptoSaid' is the law's where the arguments, and the package variables that the reading takes, are together of bulk at most 1048576: NARROWER than '..Said'. Prove '..Said' where nothing that the law and all that it calls make is longer than what came in: it says more and counts as full. Else prove '..UptoSaid'. A law counts once. -/
mutual
def uptoBulk {H : Type} : DataW H → Nat
  | .lit (.string bytes) => bytes.length + 1
  | .lit _ => 1
  | .nil => 1
  | .ptr d => uptoBulk d + 1
  | .slice elems spare => uptoBulkAll elems + uptoBulkAll spare + 1
  | .agg parts => uptoBulkAll parts + 1
  | .iface _ d => uptoBulk d + 1
  | .map entries => uptoBulkEntries entries + 1
  | .held _ => 1
def uptoBulkAll {H : Type} : List (DataW H) → Nat
  | [] => 0
  | d :: r => uptoBulk d + uptoBulkAll r
def uptoBulkEntries {H : Type} : List (Lit × DataW H) → Nat
  | [] => 0
  | x :: r => uptoBulkEntry x + uptoBulkEntries r
def uptoBulkEntry {H : Type} : Lit × DataW H → Nat
  | (.string bytes, d) => bytes.length + uptoBulk d + 1
  | (_, d) => uptoBulk d + 1
 end
def uptoSmall : (H : Type) → List (DataW H) → Bool := fun _ ds => decide (uptoBulkAll ds ≤ 1048576)
def OpenSpec.upto (s : _root_.Go.ChangeSpec) : _root_.Go.OpenSpec := { _root_.Go.OpenSpec.ofChange s with cond := some uptoSmall }

/-- 'chandlerlaw11.RpmmdNames', WHERE WHAT IT READS IS OF BULK AT MOST 1048576: true; the input reads as it did. -/
def rpmmdNamesUptoRow : OpenClaim := { program := "ytljldbdjkjllhaagreatdoor", sum := "882b8133de9e7d49df5b109b60ff0089262fc1a442602348e3f856fcdbc2d003", func := "chandler/chandlerlaw11.RpmmdNames", spec := "rpmmdNames", inPlace := ["internal/bytealg.IndexByteString", "internal/bytealg.IndexString"], unfollowed := true, recurses := true, named := ["internal/bytealg.MaxLen", "chandler/xmlpull.entities", "strconv.ErrSyntax", "strconv.ErrRange", "internal/strconv.uint64pow10", "math/bits.deBruijn32tab", "math/bits.deBruijn64tab", "unicode/utf8.first", "unicode/utf8.acceptRanges", "chandler/dep.words", "chandler/dep.signs", "chandler/rpmmd.flags"], apart := false, laid := [("math/bits.deBruijn32tab", laid_math_bits_deBruijn32tab), ("math/bits.deBruijn64tab", laid_math_bits_deBruijn64tab), ("internal/strconv.uint64pow10", laid_internal_strconv_uint64pow10), ("unicode/utf8.acceptRanges", laid_unicode_utf8_acceptRanges), ("strconv.ErrRange", laid_strconv_ErrRange), ("strconv.ErrSyntax", laid_strconv_ErrSyntax), ("chandler/dep.signs", laid_chandler_dep_signs), ("chandler/dep.words", laid_chandler_dep_words), ("chandler/xmlpull.entities", laid_chandler_xmlpull_entities), ("chandler/rpmmd.flags", laid_chandler_rpmmd_flags), ("unicode/utf8.first", laid_unicode_utf8_first)], narrowed := true }
def RpmmdNamesUptoSaid : Prop := rpmmdNamesUptoRow.holds Tryz.pinned (OpenSpec.upto rpmmdNamesSpec)

/-- 'chandlerlaw11.RpmmdApart', WHERE WHAT IT READS IS OF BULK AT MOST 1048576: true; the input reads as it did. -/
def rpmmdApartUptoRow : OpenClaim := { program := "ytljldbdjkjllhaagreatdoor", sum := "882b8133de9e7d49df5b109b60ff0089262fc1a442602348e3f856fcdbc2d003", func := "chandler/chandlerlaw11.RpmmdApart", spec := "rpmmdApart", inPlace := ["internal/bytealg.IndexByteString", "internal/bytealg.IndexString", "internal/abi.NoEscape"], unfollowed := true, recurses := true, named := ["internal/bytealg.MaxLen", "chandler/xmlpull.entities", "strconv.ErrSyntax", "strconv.ErrRange", "internal/strconv.uint64pow10", "math/bits.deBruijn32tab", "math/bits.deBruijn64tab", "unicode/utf8.first", "unicode/utf8.acceptRanges", "chandler/dep.words", "chandler/dep.signs", "chandler/rpmmd.flags"], apart := false, laid := [("math/bits.deBruijn32tab", laid_math_bits_deBruijn32tab), ("math/bits.deBruijn64tab", laid_math_bits_deBruijn64tab), ("internal/strconv.uint64pow10", laid_internal_strconv_uint64pow10), ("unicode/utf8.acceptRanges", laid_unicode_utf8_acceptRanges), ("strconv.ErrRange", laid_strconv_ErrRange), ("strconv.ErrSyntax", laid_strconv_ErrSyntax), ("chandler/dep.signs", laid_chandler_dep_signs), ("chandler/dep.words", laid_chandler_dep_words), ("chandler/xmlpull.entities", laid_chandler_xmlpull_entities), ("chandler/rpmmd.flags", laid_chandler_rpmmd_flags), ("unicode/utf8.first", laid_unicode_utf8_first)], narrowed := true }
def RpmmdApartUptoSaid : Prop := rpmmdApartUptoRow.holds Tryz.pinned (OpenSpec.upto rpmmdApartSpec)

/-- 'chandlerlaw11.RpmmdTypes', WHERE WHAT IT READS IS OF BULK AT MOST 1048576: true; the input reads as it did. -/
def rpmmdTypesUptoRow : OpenClaim := { program := "ytljldbdjkjllhaagreatdoor", sum := "882b8133de9e7d49df5b109b60ff0089262fc1a442602348e3f856fcdbc2d003", func := "chandler/chandlerlaw11.RpmmdTypes", spec := "rpmmdTypes", inPlace := ["internal/bytealg.IndexByteString", "internal/bytealg.IndexString", "internal/abi.NoEscape"], unfollowed := true, recurses := true, named := ["internal/bytealg.MaxLen", "chandler/xmlpull.entities", "strconv.ErrSyntax", "strconv.ErrRange", "internal/strconv.uint64pow10", "math/bits.deBruijn32tab", "math/bits.deBruijn64tab", "unicode/utf8.first", "unicode/utf8.acceptRanges", "chandler/dep.words", "chandler/dep.signs", "chandler/rpmmd.flags"], apart := false, laid := [("math/bits.deBruijn32tab", laid_math_bits_deBruijn32tab), ("math/bits.deBruijn64tab", laid_math_bits_deBruijn64tab), ("internal/strconv.uint64pow10", laid_internal_strconv_uint64pow10), ("unicode/utf8.acceptRanges", laid_unicode_utf8_acceptRanges), ("strconv.ErrRange", laid_strconv_ErrRange), ("strconv.ErrSyntax", laid_strconv_ErrSyntax), ("chandler/dep.signs", laid_chandler_dep_signs), ("chandler/dep.words", laid_chandler_dep_words), ("chandler/xmlpull.entities", laid_chandler_xmlpull_entities), ("chandler/rpmmd.flags", laid_chandler_rpmmd_flags), ("unicode/utf8.first", laid_unicode_utf8_first)], narrowed := true }
def RpmmdTypesUptoSaid : Prop := rpmmdTypesUptoRow.holds Tryz.pinned (OpenSpec.upto rpmmdTypesSpec)

/-- 'chandlerlaw12.DebctlNames', WHERE WHAT IT READS IS OF BULK AT MOST 1048576: true; the input reads as it did. -/
def debctlNamesUptoRow : OpenClaim := { program := "ytljldbdjkjllhaagreatdoor", sum := "882b8133de9e7d49df5b109b60ff0089262fc1a442602348e3f856fcdbc2d003", func := "chandler/chandlerlaw12.DebctlNames", spec := "debctlNames", inPlace := ["internal/bytealg.IndexByteString", "internal/bytealg.IndexString", "internal/abi.NoEscape", "internal/bytealg.MakeNoZero", "internal/bytealg.CountString"], unfollowed := true, recurses := true, named := ["internal/bytealg.MaxLen", "unicode/utf8.first", "unicode/utf8.acceptRanges", "chandler/debctl.fields", "chandler/debctl.signs", "chandler/dep.words", "chandler/dep.signs"], apart := false, laid := [("unicode/utf8.acceptRanges", laid_unicode_utf8_acceptRanges), ("chandler/dep.signs", laid_chandler_dep_signs), ("chandler/dep.words", laid_chandler_dep_words), ("chandler/debctl.fields", laid_chandler_debctl_fields), ("chandler/debctl.signs", laid_chandler_debctl_signs), ("unicode/utf8.first", laid_unicode_utf8_first)], narrowed := true }
def DebctlNamesUptoSaid : Prop := debctlNamesUptoRow.holds Tryz.pinned (OpenSpec.upto debctlNamesSpec)

/-- 'chandlerlaw12.DebctlReads', WHERE WHAT IT READS IS OF BULK AT MOST 1048576: true; the input reads as it did. -/
def debctlReadsUptoRow : OpenClaim := { program := "ytljldbdjkjllhaagreatdoor", sum := "882b8133de9e7d49df5b109b60ff0089262fc1a442602348e3f856fcdbc2d003", func := "chandler/chandlerlaw12.DebctlReads", spec := "debctlReads", inPlace := ["internal/bytealg.IndexByteString", "internal/bytealg.IndexString", "internal/abi.NoEscape", "internal/bytealg.MakeNoZero", "internal/bytealg.CountString"], unfollowed := true, recurses := true, named := ["internal/bytealg.MaxLen", "unicode/utf8.first", "unicode/utf8.acceptRanges", "chandler/debctl.fields", "chandler/debctl.signs", "chandler/dep.words", "chandler/dep.signs"], apart := false, laid := [("unicode/utf8.acceptRanges", laid_unicode_utf8_acceptRanges), ("chandler/dep.signs", laid_chandler_dep_signs), ("chandler/dep.words", laid_chandler_dep_words), ("chandler/debctl.fields", laid_chandler_debctl_fields), ("chandler/debctl.signs", laid_chandler_debctl_signs), ("unicode/utf8.first", laid_unicode_utf8_first)], narrowed := true }
def DebctlReadsUptoSaid : Prop := debctlReadsUptoRow.holds Tryz.pinned (OpenSpec.upto debctlReadsSpec)

/-- 'chandlerlaw12.DebctlAgain', WHERE WHAT IT READS IS OF BULK AT MOST 1048576: true; the input reads as it did. -/
def debctlAgainUptoRow : OpenClaim := { program := "ytljldbdjkjllhaagreatdoor", sum := "882b8133de9e7d49df5b109b60ff0089262fc1a442602348e3f856fcdbc2d003", func := "chandler/chandlerlaw12.DebctlAgain", spec := "debctlAgain", inPlace := ["internal/bytealg.IndexByteString", "internal/bytealg.IndexString", "internal/abi.NoEscape", "internal/bytealg.MakeNoZero", "internal/bytealg.CountString"], unfollowed := true, recurses := true, named := ["internal/bytealg.MaxLen", "unicode/utf8.first", "unicode/utf8.acceptRanges", "chandler/debctl.fields", "chandler/debctl.signs", "chandler/dep.words", "chandler/dep.signs"], apart := false, laid := [("unicode/utf8.acceptRanges", laid_unicode_utf8_acceptRanges), ("chandler/dep.signs", laid_chandler_dep_signs), ("chandler/dep.words", laid_chandler_dep_words), ("chandler/debctl.fields", laid_chandler_debctl_fields), ("chandler/debctl.signs", laid_chandler_debctl_signs), ("unicode/utf8.first", laid_unicode_utf8_first)], narrowed := true }
def DebctlAgainUptoSaid : Prop := debctlAgainUptoRow.holds Tryz.pinned (OpenSpec.upto debctlAgainSpec)

/-- 'chandlerlaw12.DebctlJoins', WHERE WHAT IT READS IS OF BULK AT MOST 1048576: true; the input reads as it did. -/
def debctlJoinsUptoRow : OpenClaim := { program := "ytljldbdjkjllhaagreatdoor", sum := "882b8133de9e7d49df5b109b60ff0089262fc1a442602348e3f856fcdbc2d003", func := "chandler/chandlerlaw12.DebctlJoins", spec := "debctlJoins", inPlace := ["internal/bytealg.IndexByteString", "internal/bytealg.IndexString", "internal/abi.NoEscape", "internal/bytealg.MakeNoZero", "internal/bytealg.CountString"], unfollowed := true, recurses := true, named := ["internal/bytealg.MaxLen", "unicode/utf8.first", "unicode/utf8.acceptRanges", "chandler/debctl.fields", "chandler/debctl.signs", "chandler/dep.words", "chandler/dep.signs"], apart := false, laid := [("unicode/utf8.acceptRanges", laid_unicode_utf8_acceptRanges), ("chandler/dep.signs", laid_chandler_dep_signs), ("chandler/dep.words", laid_chandler_dep_words), ("chandler/debctl.fields", laid_chandler_debctl_fields), ("chandler/debctl.signs", laid_chandler_debctl_signs), ("unicode/utf8.first", laid_unicode_utf8_first)], narrowed := true }
def DebctlJoinsUptoSaid : Prop := debctlJoinsUptoRow.holds Tryz.pinned (OpenSpec.upto debctlJoinsSpec)

/-- 'chandlerlaw12.DebctlNotes', WHERE WHAT IT READS IS OF BULK AT MOST 1048576: true; the input reads as it did. -/
def debctlNotesUptoRow : OpenClaim := { program := "ytljldbdjkjllhaagreatdoor", sum := "882b8133de9e7d49df5b109b60ff0089262fc1a442602348e3f856fcdbc2d003", func := "chandler/chandlerlaw12.DebctlNotes", spec := "debctlNotes", inPlace := ["internal/bytealg.IndexByteString", "internal/bytealg.IndexString", "internal/abi.NoEscape", "internal/bytealg.MakeNoZero", "internal/bytealg.CountString"], unfollowed := true, recurses := true, named := ["internal/bytealg.MaxLen", "unicode/utf8.first", "unicode/utf8.acceptRanges", "chandler/debctl.fields", "chandler/debctl.signs", "chandler/dep.words", "chandler/dep.signs"], apart := false, laid := [("unicode/utf8.acceptRanges", laid_unicode_utf8_acceptRanges), ("chandler/dep.signs", laid_chandler_dep_signs), ("chandler/dep.words", laid_chandler_dep_words), ("chandler/debctl.fields", laid_chandler_debctl_fields), ("chandler/debctl.signs", laid_chandler_debctl_signs), ("unicode/utf8.first", laid_unicode_utf8_first)], narrowed := true }
def DebctlNotesUptoSaid : Prop := debctlNotesUptoRow.holds Tryz.pinned (OpenSpec.upto debctlNotesSpec)

end Rows
end Go.Proofs.YtljldbdjkjllhaaGreatDoor
