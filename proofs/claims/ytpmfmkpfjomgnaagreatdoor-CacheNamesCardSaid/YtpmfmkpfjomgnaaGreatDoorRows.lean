/-
  NARROWER THAN 'FOR EVERY INPUT', by the rows' own cells (each row's printed sentence says how): PoolAdds: loops, laid · ProvidesNames: laid · ProvidesNil: loops, laid · CacheNames: laid · CacheBack: loops, laid · CacheReads: laid · CacheSmall: loops, laid · CacheOnce: laid · CacheNil: laid · CacheApart: loops, laid.
  DERIVED. THE GIVEN ROWS OF THIS SEAT. 10 by the template 'for every input the law returns true; each argument reads behind the call as it read before'; 0 by the template 'total and deterministic' (their statements: YtpmfmkpfjomgnaaGreatDoorTotals.lean).
  GIVEN WITH THE SEED: the statements are not yours to turn. If you find one false, say at which input.
  Laid BY PROGRAM, IN A SANDBOX (cutbox-rows.mjs): the forced cells as the released guide's own fill.sh prints them over the translation e32b9ec57faad1f4… (all of the seat's roots in one cut). By AI agents, Wed Nov 11 2026. No macro, syntax, notation, axiom, sorry.
-/
import Derived.Test.YtpmfmkpfjomgnaaGreatDoorChecked
import GoSem.PinnedTables
import GoSem.Claim
import GoSem.ClaimJoined
import GoSem.ClaimMapViews
import Derived.JoinedTies
import Derived.KernelRfl
namespace Go.Proofs.YtpmfmkpfjomgnaaGreatDoor
/- THE CELL 'sum', in the pinned program and in every row, IS THE sha256 OF THE DUMP (.gsa) THAT YtpmfmkpfjomgnaaGreatDoorProg.lean LOADS. Nothing in Lean hashes anything: it is a label: what it is worth is what the hold of that sum in a sandbox is worth. -/
noncomputable def Tryz.pinned : Pinned := { name := "ytpmfmkpfjomgnaagreatdoor", sum := "e32b9ec57faad1f417d2364771a3fe278f87b8f9ac1209ac1466981aeb978a2f", checked := Tryz.checked }
namespace Rows
def none {H : Type} : Left H := { results := [], args := [] }

/- WHAT THE LISTED PACKAGE-LEVEL VARIABLES READ AS WHEN THE CALL BEGINS. Each datum BY PROGRAM (the guide's laid-datum.mjs) off the statement by which the dump's own 'gosem.cut.vars' lays the variable. In a bare row this is a premise. The card (YtpmfmkpfjomgnaaGreatDoorCards.lean) ties it to the program's text. -/
def laid_chandler_dep_signs {H : Type} : DataW H := .agg [.lit (.string []), .lit (.string [60]), .lit (.string [61]), .lit (.string [60, 61]), .lit (.string [62]), .lit (.string [60, 62]), .lit (.string [62, 61]), .lit (.string [60, 61, 62])]
def laid_chandler_dep_words {H : Type} : DataW H := .agg [.lit (.string []), .lit (.string []), .lit (.string [97, 110, 100]), .lit (.string [111, 114]), .lit (.string [105, 102]), .lit (.string [119, 105, 116, 104]), .lit (.string [119, 105, 116, 104, 111, 117, 116]), .lit (.string [])]
def laid_unicode_utf8_acceptRanges {H : Type} : DataW H := .agg [.agg [.lit (.int .u8 128), .lit (.int .u8 191)], .agg [.lit (.int .u8 160), .lit (.int .u8 191)], .agg [.lit (.int .u8 128), .lit (.int .u8 159)], .agg [.lit (.int .u8 144), .lit (.int .u8 191)], .agg [.lit (.int .u8 128), .lit (.int .u8 143)], .agg [.lit (.int .u8 0), .lit (.int .u8 0)], .agg [.lit (.int .u8 0), .lit (.int .u8 0)], .agg [.lit (.int .u8 0), .lit (.int .u8 0)], .agg [.lit (.int .u8 0), .lit (.int .u8 0)], .agg [.lit (.int .u8 0), .lit (.int .u8 0)], .agg [.lit (.int .u8 0), .lit (.int .u8 0)], .agg [.lit (.int .u8 0), .lit (.int .u8 0)], .agg [.lit (.int .u8 0), .lit (.int .u8 0)], .agg [.lit (.int .u8 0), .lit (.int .u8 0)], .agg [.lit (.int .u8 0), .lit (.int .u8 0)], .agg [.lit (.int .u8 0), .lit (.int .u8 0)]]
/-- One of Go's own tables, pinned by name: the form's constant. -/
def laid_unicode_utf8_first : DataW Unit := Go.Pinned.utf8First

/-- 'chandlerlaw06.PoolAdds': WHATEVER THE INPUT: true; the input reads as it did. -/
def poolAddsSpec : ChangeSpec := { name := "poolAdds", fn := fun _ => fun
  | [d1, d2, d3, d4] => { results := [.lit (.bool true)], args := [d1, d2, d3, d4] }
  | _ => none }
def poolAddsRow : OpenClaim := { program := "ytpmfmkpfjomgnaagreatdoor", sum := "e32b9ec57faad1f417d2364771a3fe278f87b8f9ac1209ac1466981aeb978a2f", func := "chandler/chandlerlaw06.PoolAdds", spec := "poolAdds", inPlace := ["internal/bytealg.IndexByteString", "internal/bytealg.IndexString"], unfollowed := true, recurses := true, named := ["chandler/dep.words", "chandler/dep.signs", "internal/bytealg.MaxLen"], loops := true, apart := false, laid := [("chandler/dep.signs", laid_chandler_dep_signs), ("chandler/dep.words", laid_chandler_dep_words)] }
def PoolAddsSaid : Prop := poolAddsRow.holds Tryz.pinned (OpenSpec.ofChange poolAddsSpec)

/-- ITS FALSE NEIGHBOUR: 'it returns false'. Refute it at one input. -/
def poolAddsWrong : ChangeSpec := { name := "poolAdds", fn := fun _ => fun
  | [d1, d2, d3, d4] => { results := [.lit (.bool false)], args := [d1, d2, d3, d4] }
  | _ => none }
def PoolAddsWrongFalsely : Prop := poolAddsRow.holds Tryz.pinned (OpenSpec.ofChange poolAddsWrong)

/-- 'chandlerlaw07.ProvidesNames': WHATEVER THE INPUT: true; the input reads as it did. -/
def providesNamesSpec : ChangeSpec := { name := "providesNames", fn := fun _ => fun
  | [] => { results := [.lit (.bool true)], args := [] }
  | _ => none }
def providesNamesRow : OpenClaim := { program := "ytpmfmkpfjomgnaagreatdoor", sum := "e32b9ec57faad1f417d2364771a3fe278f87b8f9ac1209ac1466981aeb978a2f", func := "chandler/chandlerlaw07.ProvidesNames", spec := "providesNames", inPlace := ["internal/bytealg.IndexByteString", "internal/bytealg.IndexString", "internal/bytealg.abigen_runtime_cmpstring"], unfollowed := true, recurses := true, named := ["chandler/dep.words", "chandler/dep.signs", "internal/bytealg.MaxLen", "unicode/utf8.first", "unicode/utf8.acceptRanges"], apart := false, laid := [("unicode/utf8.acceptRanges", laid_unicode_utf8_acceptRanges), ("chandler/dep.signs", laid_chandler_dep_signs), ("chandler/dep.words", laid_chandler_dep_words), ("unicode/utf8.first", laid_unicode_utf8_first)] }
def ProvidesNamesSaid : Prop := providesNamesRow.holds Tryz.pinned (OpenSpec.ofChange providesNamesSpec)

/-- ITS FALSE NEIGHBOUR: 'it returns false'. Refute it at one input. -/
def providesNamesWrong : ChangeSpec := { name := "providesNames", fn := fun _ => fun
  | [] => { results := [.lit (.bool false)], args := [] }
  | _ => none }
def ProvidesNamesWrongFalsely : Prop := providesNamesRow.holds Tryz.pinned (OpenSpec.ofChange providesNamesWrong)

/-- 'chandlerlaw07.ProvidesNil': WHATEVER THE INPUT: true; the input reads as it did. -/
def providesNilSpec : ChangeSpec := { name := "providesNil", fn := fun _ => fun
  | [d1, d2] => { results := [.lit (.bool true)], args := [d1, d2] }
  | _ => none }
def providesNilRow : OpenClaim := { program := "ytpmfmkpfjomgnaagreatdoor", sum := "e32b9ec57faad1f417d2364771a3fe278f87b8f9ac1209ac1466981aeb978a2f", func := "chandler/chandlerlaw07.ProvidesNil", spec := "providesNil", inPlace := ["internal/bytealg.IndexByteString", "internal/bytealg.IndexString", "internal/bytealg.abigen_runtime_cmpstring"], unfollowed := true, recurses := true, named := ["chandler/dep.words", "chandler/dep.signs", "internal/bytealg.MaxLen", "unicode/utf8.first", "unicode/utf8.acceptRanges"], loops := true, apart := false, laid := [("unicode/utf8.acceptRanges", laid_unicode_utf8_acceptRanges), ("chandler/dep.signs", laid_chandler_dep_signs), ("chandler/dep.words", laid_chandler_dep_words), ("unicode/utf8.first", laid_unicode_utf8_first)] }
def ProvidesNilSaid : Prop := providesNilRow.holds Tryz.pinned (OpenSpec.ofChange providesNilSpec)

/-- ITS FALSE NEIGHBOUR: 'it returns false'. Refute it at one input. -/
def providesNilWrong : ChangeSpec := { name := "providesNil", fn := fun _ => fun
  | [d1, d2] => { results := [.lit (.bool false)], args := [d1, d2] }
  | _ => none }
def ProvidesNilWrongFalsely : Prop := providesNilRow.holds Tryz.pinned (OpenSpec.ofChange providesNilWrong)

/-- 'chandlerlaw09.CacheNames': WHATEVER THE INPUT: true; the input reads as it did. -/
def cacheNamesSpec : ChangeSpec := { name := "cacheNames", fn := fun _ => fun
  | [] => { results := [.lit (.bool true)], args := [] }
  | _ => none }
def cacheNamesRow : OpenClaim := { program := "ytpmfmkpfjomgnaagreatdoor", sum := "e32b9ec57faad1f417d2364771a3fe278f87b8f9ac1209ac1466981aeb978a2f", func := "chandler/chandlerlaw09.CacheNames", spec := "cacheNames", inPlace := ["internal/bytealg.IndexByteString", "internal/bytealg.IndexString"], unfollowed := true, recurses := true, named := ["chandler/dep.words", "chandler/dep.signs", "internal/bytealg.MaxLen"], apart := false, laid := [("chandler/dep.signs", laid_chandler_dep_signs), ("chandler/dep.words", laid_chandler_dep_words)] }
def CacheNamesSaid : Prop := cacheNamesRow.holds Tryz.pinned (OpenSpec.ofChange cacheNamesSpec)

/-- ITS FALSE NEIGHBOUR: 'it returns false'. Refute it at one input. -/
def cacheNamesWrong : ChangeSpec := { name := "cacheNames", fn := fun _ => fun
  | [] => { results := [.lit (.bool false)], args := [] }
  | _ => none }
def CacheNamesWrongFalsely : Prop := cacheNamesRow.holds Tryz.pinned (OpenSpec.ofChange cacheNamesWrong)

/-- 'chandlerlaw09.CacheBack': WHATEVER THE INPUT: true; the input reads as it did. -/
def cacheBackSpec : ChangeSpec := { name := "cacheBack", fn := fun _ => fun
  | [d1, d2] => { results := [.lit (.bool true)], args := [d1, d2] }
  | _ => none }
def cacheBackRow : OpenClaim := { program := "ytpmfmkpfjomgnaagreatdoor", sum := "e32b9ec57faad1f417d2364771a3fe278f87b8f9ac1209ac1466981aeb978a2f", func := "chandler/chandlerlaw09.CacheBack", spec := "cacheBack", inPlace := ["internal/bytealg.IndexByteString", "internal/bytealg.IndexString"], unfollowed := true, recurses := true, named := ["chandler/dep.words", "chandler/dep.signs", "internal/bytealg.MaxLen"], loops := true, apart := false, laid := [("chandler/dep.signs", laid_chandler_dep_signs), ("chandler/dep.words", laid_chandler_dep_words)] }
def CacheBackSaid : Prop := cacheBackRow.holds Tryz.pinned (OpenSpec.ofChange cacheBackSpec)

/-- ITS FALSE NEIGHBOUR: 'it returns false'. Refute it at one input. -/
def cacheBackWrong : ChangeSpec := { name := "cacheBack", fn := fun _ => fun
  | [d1, d2] => { results := [.lit (.bool false)], args := [d1, d2] }
  | _ => none }
def CacheBackWrongFalsely : Prop := cacheBackRow.holds Tryz.pinned (OpenSpec.ofChange cacheBackWrong)

/-- 'chandlerlaw09.CacheReads': WHATEVER THE INPUT: true; the input reads as it did. -/
def cacheReadsSpec : ChangeSpec := { name := "cacheReads", fn := fun _ => fun
  | [d] => { results := [.lit (.bool true)], args := [d] }
  | _ => none }
def cacheReadsRow : OpenClaim := { program := "ytpmfmkpfjomgnaagreatdoor", sum := "e32b9ec57faad1f417d2364771a3fe278f87b8f9ac1209ac1466981aeb978a2f", func := "chandler/chandlerlaw09.CacheReads", spec := "cacheReads", inPlace := ["internal/bytealg.IndexByteString", "internal/bytealg.IndexString"], unfollowed := true, recurses := true, named := ["chandler/dep.words", "chandler/dep.signs", "internal/bytealg.MaxLen"], apart := false, laid := [("chandler/dep.signs", laid_chandler_dep_signs), ("chandler/dep.words", laid_chandler_dep_words)] }
def CacheReadsSaid : Prop := cacheReadsRow.holds Tryz.pinned (OpenSpec.ofChange cacheReadsSpec)

/-- ITS FALSE NEIGHBOUR: 'it returns false'. Refute it at one input. -/
def cacheReadsWrong : ChangeSpec := { name := "cacheReads", fn := fun _ => fun
  | [d] => { results := [.lit (.bool false)], args := [d] }
  | _ => none }
def CacheReadsWrongFalsely : Prop := cacheReadsRow.holds Tryz.pinned (OpenSpec.ofChange cacheReadsWrong)

/-- 'chandlerlaw09.CacheSmall': WHATEVER THE INPUT: true; the input reads as it did. -/
def cacheSmallSpec : ChangeSpec := { name := "cacheSmall", fn := fun _ => fun
  | [d1, d2] => { results := [.lit (.bool true)], args := [d1, d2] }
  | _ => none }
def cacheSmallRow : OpenClaim := { program := "ytpmfmkpfjomgnaagreatdoor", sum := "e32b9ec57faad1f417d2364771a3fe278f87b8f9ac1209ac1466981aeb978a2f", func := "chandler/chandlerlaw09.CacheSmall", spec := "cacheSmall", inPlace := ["internal/bytealg.IndexByteString", "internal/bytealg.IndexString"], unfollowed := true, recurses := true, named := ["chandler/dep.words", "chandler/dep.signs", "internal/bytealg.MaxLen"], loops := true, apart := false, laid := [("chandler/dep.signs", laid_chandler_dep_signs), ("chandler/dep.words", laid_chandler_dep_words)] }
def CacheSmallSaid : Prop := cacheSmallRow.holds Tryz.pinned (OpenSpec.ofChange cacheSmallSpec)

/-- ITS FALSE NEIGHBOUR: 'it returns false'. Refute it at one input. -/
def cacheSmallWrong : ChangeSpec := { name := "cacheSmall", fn := fun _ => fun
  | [d1, d2] => { results := [.lit (.bool false)], args := [d1, d2] }
  | _ => none }
def CacheSmallWrongFalsely : Prop := cacheSmallRow.holds Tryz.pinned (OpenSpec.ofChange cacheSmallWrong)

/-- 'chandlerlaw09.CacheOnce': WHATEVER THE INPUT: true; the input reads as it did. -/
def cacheOnceSpec : ChangeSpec := { name := "cacheOnce", fn := fun _ => fun
  | [d] => { results := [.lit (.bool true)], args := [d] }
  | _ => none }
def cacheOnceRow : OpenClaim := { program := "ytpmfmkpfjomgnaagreatdoor", sum := "e32b9ec57faad1f417d2364771a3fe278f87b8f9ac1209ac1466981aeb978a2f", func := "chandler/chandlerlaw09.CacheOnce", spec := "cacheOnce", inPlace := ["internal/bytealg.IndexByteString", "internal/bytealg.IndexString"], unfollowed := true, recurses := true, named := ["chandler/dep.words", "chandler/dep.signs", "internal/bytealg.MaxLen"], apart := false, laid := [("chandler/dep.signs", laid_chandler_dep_signs), ("chandler/dep.words", laid_chandler_dep_words)] }
def CacheOnceSaid : Prop := cacheOnceRow.holds Tryz.pinned (OpenSpec.ofChange cacheOnceSpec)

/-- ITS FALSE NEIGHBOUR: 'it returns false'. Refute it at one input. -/
def cacheOnceWrong : ChangeSpec := { name := "cacheOnce", fn := fun _ => fun
  | [d] => { results := [.lit (.bool false)], args := [d] }
  | _ => none }
def CacheOnceWrongFalsely : Prop := cacheOnceRow.holds Tryz.pinned (OpenSpec.ofChange cacheOnceWrong)

/-- 'chandlerlaw09.CacheNil': WHATEVER THE INPUT: true; the input reads as it did. -/
def cacheNilSpec : ChangeSpec := { name := "cacheNil", fn := fun _ => fun
  | [] => { results := [.lit (.bool true)], args := [] }
  | _ => none }
def cacheNilRow : OpenClaim := { program := "ytpmfmkpfjomgnaagreatdoor", sum := "e32b9ec57faad1f417d2364771a3fe278f87b8f9ac1209ac1466981aeb978a2f", func := "chandler/chandlerlaw09.CacheNil", spec := "cacheNil", inPlace := ["internal/bytealg.IndexByteString", "internal/bytealg.IndexString"], unfollowed := true, recurses := true, named := ["chandler/dep.words", "chandler/dep.signs", "internal/bytealg.MaxLen"], apart := false, laid := [("chandler/dep.signs", laid_chandler_dep_signs), ("chandler/dep.words", laid_chandler_dep_words)] }
def CacheNilSaid : Prop := cacheNilRow.holds Tryz.pinned (OpenSpec.ofChange cacheNilSpec)

/-- ITS FALSE NEIGHBOUR: 'it returns false'. Refute it at one input. -/
def cacheNilWrong : ChangeSpec := { name := "cacheNil", fn := fun _ => fun
  | [] => { results := [.lit (.bool false)], args := [] }
  | _ => none }
def CacheNilWrongFalsely : Prop := cacheNilRow.holds Tryz.pinned (OpenSpec.ofChange cacheNilWrong)

/-- 'chandlerlaw09.CacheApart': WHATEVER THE INPUT: true; the input reads as it did. -/
def cacheApartSpec : ChangeSpec := { name := "cacheApart", fn := fun _ => fun
  | [d1, d2, d3] => { results := [.lit (.bool true)], args := [d1, d2, d3] }
  | _ => none }
def cacheApartRow : OpenClaim := { program := "ytpmfmkpfjomgnaagreatdoor", sum := "e32b9ec57faad1f417d2364771a3fe278f87b8f9ac1209ac1466981aeb978a2f", func := "chandler/chandlerlaw09.CacheApart", spec := "cacheApart", inPlace := ["internal/bytealg.IndexByteString", "internal/bytealg.IndexString"], unfollowed := true, recurses := true, named := ["chandler/dep.words", "chandler/dep.signs", "internal/bytealg.MaxLen"], loops := true, apart := false, laid := [("chandler/dep.signs", laid_chandler_dep_signs), ("chandler/dep.words", laid_chandler_dep_words)] }
def CacheApartSaid : Prop := cacheApartRow.holds Tryz.pinned (OpenSpec.ofChange cacheApartSpec)

/-- ITS FALSE NEIGHBOUR: 'it returns false'. Refute it at one input. -/
def cacheApartWrong : ChangeSpec := { name := "cacheApart", fn := fun _ => fun
  | [d1, d2, d3] => { results := [.lit (.bool false)], args := [d1, d2, d3] }
  | _ => none }
def CacheApartWrongFalsely : Prop := cacheApartRow.holds Tryz.pinned (OpenSpec.ofChange cacheApartWrong)

/- THE SECOND FORM. 'bulk': how many values and letters a reading holds, each counted each time it is reached (what is shared counts as often as it is met; a slice's spare places count too). A statement '..UptoSaid' is the law's where the arguments, and the package variables that the reading takes, are together of bulk at most 1048576: NARROWER than '..Said'. Prove '..Said' where nothing that the law and all that it calls make is longer than what came in: it says more and counts as full. Else prove '..UptoSaid'. A law counts once. -/
mutual
def uptoBulk {H : Type} : DataW H → Nat
  | .lit (.string bytes) => bytes.length + 1
  | .lit _ => 1
  | .nil => 1
  | .ptr d => uptoBulk d + 1
  | .slice elems spare => uptoBulkAll elems + uptoBulkAll spare + 1
  | .agg parts => uptoBulkAll parts + 1
  | .iface _ d => uptoBulk d + 1
  | .map entries => uptoBulkEntries entries + 1
  | .held _ => 1
def uptoBulkAll {H : Type} : List (DataW H) → Nat
  | [] => 0
  | d :: r => uptoBulk d + uptoBulkAll r
def uptoBulkEntries {H : Type} : List (Lit × DataW H) → Nat
  | [] => 0
  | x :: r => uptoBulkEntry x + uptoBulkEntries r
def uptoBulkEntry {H : Type} : Lit × DataW H → Nat
  | (.string bytes, d) => bytes.length + uptoBulk d + 1
  | (_, d) => uptoBulk d + 1
 end
def uptoSmall : (H : Type) → List (DataW H) → Bool := fun _ ds => decide (uptoBulkAll ds ≤ 1048576)
def OpenSpec.upto (s : _root_.Go.ChangeSpec) : _root_.Go.OpenSpec := { _root_.Go.OpenSpec.ofChange s with cond := some uptoSmall }

/-- 'chandlerlaw06.PoolAdds', WHERE WHAT IT READS IS OF BULK AT MOST 1048576: true; the input reads as it did. -/
def poolAddsUptoRow : OpenClaim := { program := "ytpmfmkpfjomgnaagreatdoor", sum := "e32b9ec57faad1f417d2364771a3fe278f87b8f9ac1209ac1466981aeb978a2f", func := "chandler/chandlerlaw06.PoolAdds", spec := "poolAdds", inPlace := ["internal/bytealg.IndexByteString", "internal/bytealg.IndexString"], unfollowed := true, recurses := true, named := ["chandler/dep.words", "chandler/dep.signs", "internal/bytealg.MaxLen"], loops := true, apart := false, laid := [("chandler/dep.signs", laid_chandler_dep_signs), ("chandler/dep.words", laid_chandler_dep_words)], narrowed := true }
def PoolAddsUptoSaid : Prop := poolAddsUptoRow.holds Tryz.pinned (OpenSpec.upto poolAddsSpec)

/-- 'chandlerlaw07.ProvidesNames', WHERE WHAT IT READS IS OF BULK AT MOST 1048576: true; the input reads as it did. -/
def providesNamesUptoRow : OpenClaim := { program := "ytpmfmkpfjomgnaagreatdoor", sum := "e32b9ec57faad1f417d2364771a3fe278f87b8f9ac1209ac1466981aeb978a2f", func := "chandler/chandlerlaw07.ProvidesNames", spec := "providesNames", inPlace := ["internal/bytealg.IndexByteString", "internal/bytealg.IndexString", "internal/bytealg.abigen_runtime_cmpstring"], unfollowed := true, recurses := true, named := ["chandler/dep.words", "chandler/dep.signs", "internal/bytealg.MaxLen", "unicode/utf8.first", "unicode/utf8.acceptRanges"], apart := false, laid := [("unicode/utf8.acceptRanges", laid_unicode_utf8_acceptRanges), ("chandler/dep.signs", laid_chandler_dep_signs), ("chandler/dep.words", laid_chandler_dep_words), ("unicode/utf8.first", laid_unicode_utf8_first)], narrowed := true }
def ProvidesNamesUptoSaid : Prop := providesNamesUptoRow.holds Tryz.pinned (OpenSpec.upto providesNamesSpec)

/-- 'chandlerlaw07.ProvidesNil', WHERE WHAT IT READS IS OF BULK AT MOST 1048576: true; the input reads as it did. -/
def providesNilUptoRow : OpenClaim := { program := "ytpmfmkpfjomgnaagreatdoor", sum := "e32b9ec57faad1f417d2364771a3fe278f87b8f9ac1209ac1466981aeb978a2f", func := "chandler/chandlerlaw07.ProvidesNil", spec := "providesNil", inPlace := ["internal/bytealg.IndexByteString", "internal/bytealg.IndexString", "internal/bytealg.abigen_runtime_cmpstring"], unfollowed := true, recurses := true, named := ["chandler/dep.words", "chandler/dep.signs", "internal/bytealg.MaxLen", "unicode/utf8.first", "unicode/utf8.acceptRanges"], loops := true, apart := false, laid := [("unicode/utf8.acceptRanges", laid_unicode_utf8_acceptRanges), ("chandler/dep.signs", laid_chandler_dep_signs), ("chandler/dep.words", laid_chandler_dep_words), ("unicode/utf8.first", laid_unicode_utf8_first)], narrowed := true }
def ProvidesNilUptoSaid : Prop := providesNilUptoRow.holds Tryz.pinned (OpenSpec.upto providesNilSpec)

/-- 'chandlerlaw09.CacheNames', WHERE WHAT IT READS IS OF BULK AT MOST 1048576: true; the input reads as it did. -/
def cacheNamesUptoRow : OpenClaim := { program := "ytpmfmkpfjomgnaagreatdoor", sum := "e32b9ec57faad1f417d2364771a3fe278f87b8f9ac1209ac1466981aeb978a2f", func := "chandler/chandlerlaw09.CacheNames", spec := "cacheNames", inPlace := ["internal/bytealg.IndexByteString", "internal/bytealg.IndexString"], unfollowed := true, recurses := true, named := ["chandler/dep.words", "chandler/dep.signs", "internal/bytealg.MaxLen"], apart := false, laid := [("chandler/dep.signs", laid_chandler_dep_signs), ("chandler/dep.words", laid_chandler_dep_words)], narrowed := true }
def CacheNamesUptoSaid : Prop := cacheNamesUptoRow.holds Tryz.pinned (OpenSpec.upto cacheNamesSpec)

/-- 'chandlerlaw09.CacheBack', WHERE WHAT IT READS IS OF BULK AT MOST 1048576: true; the input reads as it did. -/
def cacheBackUptoRow : OpenClaim := { program := "ytpmfmkpfjomgnaagreatdoor", sum := "e32b9ec57faad1f417d2364771a3fe278f87b8f9ac1209ac1466981aeb978a2f", func := "chandler/chandlerlaw09.CacheBack", spec := "cacheBack", inPlace := ["internal/bytealg.IndexByteString", "internal/bytealg.IndexString"], unfollowed := true, recurses := true, named := ["chandler/dep.words", "chandler/dep.signs", "internal/bytealg.MaxLen"], loops := true, apart := false, laid := [("chandler/dep.signs", laid_chandler_dep_signs), ("chandler/dep.words", laid_chandler_dep_words)], narrowed := true }
def CacheBackUptoSaid : Prop := cacheBackUptoRow.holds Tryz.pinned (OpenSpec.upto cacheBackSpec)

/-- 'chandlerlaw09.CacheReads', WHERE WHAT IT READS IS OF BULK AT MOST 1048576: true; the input reads as it did. -/
def cacheReadsUptoRow : OpenClaim := { program := "ytpmfmkpfjomgnaagreatdoor", sum := "e32b9ec57faad1f417d2364771a3fe278f87b8f9ac1209ac1466981aeb978a2f", func := "chandler/chandlerlaw09.CacheReads", spec := "cacheReads", inPlace := ["internal/bytealg.IndexByteString", "internal/bytealg.IndexString"], unfollowed := true, recurses := true, named := ["chandler/dep.words", "chandler/dep.signs", "internal/bytealg.MaxLen"], apart := false, laid := [("chandler/dep.signs", laid_chandler_dep_signs), ("chandler/dep.words", laid_chandler_dep_words)], narrowed := true }
def CacheReadsUptoSaid : Prop := cacheReadsUptoRow.holds Tryz.pinned (OpenSpec.upto cacheReadsSpec)

/-- 'chandlerlaw09.CacheSmall', WHERE WHAT IT READS IS OF BULK AT MOST 1048576: true; the input reads as it did. -/
def cacheSmallUptoRow : OpenClaim := { program := "ytpmfmkpfjomgnaagreatdoor", sum := "e32b9ec57faad1f417d2364771a3fe278f87b8f9ac1209ac1466981aeb978a2f", func := "chandler/chandlerlaw09.CacheSmall", spec := "cacheSmall", inPlace := ["internal/bytealg.IndexByteString", "internal/bytealg.IndexString"], unfollowed := true, recurses := true, named := ["chandler/dep.words", "chandler/dep.signs", "internal/bytealg.MaxLen"], loops := true, apart := false, laid := [("chandler/dep.signs", laid_chandler_dep_signs), ("chandler/dep.words", laid_chandler_dep_words)], narrowed := true }
def CacheSmallUptoSaid : Prop := cacheSmallUptoRow.holds Tryz.pinned (OpenSpec.upto cacheSmallSpec)

/-- 'chandlerlaw09.CacheOnce', WHERE WHAT IT READS IS OF BULK AT MOST 1048576: true; the input reads as it did. -/
def cacheOnceUptoRow : OpenClaim := { program := "ytpmfmkpfjomgnaagreatdoor", sum := "e32b9ec57faad1f417d2364771a3fe278f87b8f9ac1209ac1466981aeb978a2f", func := "chandler/chandlerlaw09.CacheOnce", spec := "cacheOnce", inPlace := ["internal/bytealg.IndexByteString", "internal/bytealg.IndexString"], unfollowed := true, recurses := true, named := ["chandler/dep.words", "chandler/dep.signs", "internal/bytealg.MaxLen"], apart := false, laid := [("chandler/dep.signs", laid_chandler_dep_signs), ("chandler/dep.words", laid_chandler_dep_words)], narrowed := true }
def CacheOnceUptoSaid : Prop := cacheOnceUptoRow.holds Tryz.pinned (OpenSpec.upto cacheOnceSpec)

/-- 'chandlerlaw09.CacheNil', WHERE WHAT IT READS IS OF BULK AT MOST 1048576: true; the input reads as it did. -/
def cacheNilUptoRow : OpenClaim := { program := "ytpmfmkpfjomgnaagreatdoor", sum := "e32b9ec57faad1f417d2364771a3fe278f87b8f9ac1209ac1466981aeb978a2f", func := "chandler/chandlerlaw09.CacheNil", spec := "cacheNil", inPlace := ["internal/bytealg.IndexByteString", "internal/bytealg.IndexString"], unfollowed := true, recurses := true, named := ["chandler/dep.words", "chandler/dep.signs", "internal/bytealg.MaxLen"], apart := false, laid := [("chandler/dep.signs", laid_chandler_dep_signs), ("chandler/dep.words", laid_chandler_dep_words)], narrowed := true }
def CacheNilUptoSaid : Prop := cacheNilUptoRow.holds Tryz.pinned (OpenSpec.upto cacheNilSpec)

/-- 'chandlerlaw09.CacheApart', WHERE WHAT IT READS IS OF BULK AT MOST 1048576: true; the input reads as it did. -/
def cacheApartUptoRow : OpenClaim := { program := "ytpmfmkpfjomgnaagreatdoor", sum := "e32b9ec57faad1f417d2364771a3fe278f87b8f9ac1209ac1466981aeb978a2f", func := "chandler/chandlerlaw09.CacheApart", spec := "cacheApart", inPlace := ["internal/bytealg.IndexByteString", "internal/bytealg.IndexString"], unfollowed := true, recurses := true, named := ["chandler/dep.words", "chandler/dep.signs", "internal/bytealg.MaxLen"], loops := true, apart := false, laid := [("chandler/dep.signs", laid_chandler_dep_signs), ("chandler/dep.words", laid_chandler_dep_words)], narrowed := true }
def CacheApartUptoSaid : Prop := cacheApartUptoRow.holds Tryz.pinned (OpenSpec.upto cacheApartSpec)

end Rows
end Go.Proofs.YtpmfmkpfjomgnaaGreatDoor
