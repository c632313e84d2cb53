/-
  DERIVED. GIVEN WITH THE SEED: THE CARDS: each row of YtdhgiammfpjniaaGreatDoorRows.lean that lists a variable, with what it lists TIED to the program's text (the seventh form; the later family's looks); each row that meets fmt, with fmt's text TOLD by the authors' own Lean function (tested against real Go, not proved from fmt's source: count such statements apart). THE CARD IS WHAT COUNTS. Prove the row's statement (the work); the ties are given (YtdhgiammfpjniaaGreatDoorTie.lean); close each card by the builder's one call (the guide's Derived/Test/ToyasCard.lean, 'card_holds'). Laid BY PROGRAM, IN A SANDBOX (cutbox-door.mjs). By AI agents, Wed Nov 11 2026. No macro, syntax, notation, axiom, sorry.
-/
import Derived.Test.YtdhgiammfpjniaaGreatDoorRows
import GoSem.ClaimSeven
namespace Go.Proofs.YtdhgiammfpjniaaGreatDoor
namespace Rows

/-- THE TIED CARD OF 'chandlerlaw12.DebctlReads'. -/
def debctlReadsCard : Claim7 := { stood := { row := debctlReadsRow, standIns := [], harness := (true, "7da64226cb3d2494b6952002e0239fda17f4025f097886093ed5a076fbd11553"), looks := true }, kinds := [], alts := [], laidByText := true, laidKinds := [.data, .wider, .wider, .data, .data, .pinned], laidTests := true, laidLooks := .later }
def DebctlReadsCardSaid : Prop := Claim7.holds Tryz.pinned (.plain (OpenSpec.ofChange debctlReadsSpec)) debctlReadsCard

/-- THE TIED CARD OF 'chandlerlaw12.DebctlAgain'. -/
def debctlAgainCard : Claim7 := { stood := { row := debctlAgainRow, standIns := [], harness := (true, "7da64226cb3d2494b6952002e0239fda17f4025f097886093ed5a076fbd11553"), looks := true }, kinds := [], alts := [], laidByText := true, laidKinds := [.data, .wider, .wider, .data, .data, .pinned], laidTests := true, laidLooks := .later }
def DebctlAgainCardSaid : Prop := Claim7.holds Tryz.pinned (.plain (OpenSpec.ofChange debctlAgainSpec)) debctlAgainCard

/-- THE TIED CARD OF 'chandlerlaw12.DebctlJoins'. -/
def debctlJoinsCard : Claim7 := { stood := { row := debctlJoinsRow, standIns := [], harness := (true, "7da64226cb3d2494b6952002e0239fda17f4025f097886093ed5a076fbd11553"), looks := true }, kinds := [], alts := [], laidByText := true, laidKinds := [.data, .wider, .wider, .data, .data, .pinned], laidTests := true, laidLooks := .later }
def DebctlJoinsCardSaid : Prop := Claim7.holds Tryz.pinned (.plain (OpenSpec.ofChange debctlJoinsSpec)) debctlJoinsCard

/-- THE TIED CARD OF 'chandlerlaw13.SuseNames'. -/
def suseNamesCard : Claim7 := { stood := { row := suseNamesRow, standIns := [], harness := (true, "7da64226cb3d2494b6952002e0239fda17f4025f097886093ed5a076fbd11553"), looks := true }, kinds := [], alts := [], laidByText := true, laidKinds := [.data, .wider, .wider, .pinned], laidTests := true, laidLooks := .later }
def SuseNamesCardSaid : Prop := Claim7.holds Tryz.pinned (.plain (OpenSpec.ofChange suseNamesSpec)) suseNamesCard

/-- THE TIED CARD OF 'chandlerlaw13.SuseReads'. -/
def suseReadsCard : Claim7 := { stood := { row := suseReadsRow, standIns := [], harness := (true, "7da64226cb3d2494b6952002e0239fda17f4025f097886093ed5a076fbd11553"), looks := true }, kinds := [], alts := [], laidByText := true, laidKinds := [.data, .wider, .wider, .pinned], laidTests := true, laidLooks := .later }
def SuseReadsCardSaid : Prop := Claim7.holds Tryz.pinned (.plain (OpenSpec.ofChange suseReadsSpec)) suseReadsCard

/-- THE TIED CARD OF 'chandlerlaw13.SuseAgain'. -/
def suseAgainCard : Claim7 := { stood := { row := suseAgainRow, standIns := [], harness := (true, "7da64226cb3d2494b6952002e0239fda17f4025f097886093ed5a076fbd11553"), looks := true }, kinds := [], alts := [], laidByText := true, laidKinds := [.data, .wider, .wider, .data, .pinned], laidTests := true, laidLooks := .later }
def SuseAgainCardSaid : Prop := Claim7.holds Tryz.pinned (.plain (OpenSpec.ofChange suseAgainSpec)) suseAgainCard

/-- THE TIED CARD OF 'chandlerlaw13.SuseJoins'. -/
def suseJoinsCard : Claim7 := { stood := { row := suseJoinsRow, standIns := [], harness := (true, "7da64226cb3d2494b6952002e0239fda17f4025f097886093ed5a076fbd11553"), looks := true }, kinds := [], alts := [], laidByText := true, laidKinds := [.data, .wider, .wider, .pinned], laidTests := true, laidLooks := .later }
def SuseJoinsCardSaid : Prop := Claim7.holds Tryz.pinned (.plain (OpenSpec.ofChange suseJoinsSpec)) suseJoinsCard

/-- THE TIED CARD OF 'chandlerlaw13.SuseBlocks'. -/
def suseBlocksCard : Claim7 := { stood := { row := suseBlocksRow, standIns := [], harness := (true, "7da64226cb3d2494b6952002e0239fda17f4025f097886093ed5a076fbd11553"), looks := true }, kinds := [], alts := [], laidByText := true, laidKinds := [.data, .wider, .wider, .pinned], laidTests := true, laidLooks := .later }
def SuseBlocksCardSaid : Prop := Claim7.holds Tryz.pinned (.plain (OpenSpec.ofChange suseBlocksSpec)) suseBlocksCard

/-- THE SECOND FORM's CARD OF 'chandlerlaw12.DebctlReads'. -/
def debctlReadsUptoCard : Claim7 := { stood := { row := debctlReadsUptoRow, standIns := [], harness := (true, "7da64226cb3d2494b6952002e0239fda17f4025f097886093ed5a076fbd11553"), looks := true }, kinds := [], alts := [], laidByText := true, laidKinds := [.data, .wider, .wider, .data, .data, .pinned], laidTests := true, laidLooks := .later }
def DebctlReadsUptoCardSaid : Prop := Claim7.holds Tryz.pinned (.plain (OpenSpec.upto debctlReadsSpec)) debctlReadsUptoCard

/-- THE SECOND FORM's CARD OF 'chandlerlaw12.DebctlAgain'. -/
def debctlAgainUptoCard : Claim7 := { stood := { row := debctlAgainUptoRow, standIns := [], harness := (true, "7da64226cb3d2494b6952002e0239fda17f4025f097886093ed5a076fbd11553"), looks := true }, kinds := [], alts := [], laidByText := true, laidKinds := [.data, .wider, .wider, .data, .data, .pinned], laidTests := true, laidLooks := .later }
def DebctlAgainUptoCardSaid : Prop := Claim7.holds Tryz.pinned (.plain (OpenSpec.upto debctlAgainSpec)) debctlAgainUptoCard

/-- THE SECOND FORM's CARD OF 'chandlerlaw12.DebctlJoins'. -/
def debctlJoinsUptoCard : Claim7 := { stood := { row := debctlJoinsUptoRow, standIns := [], harness := (true, "7da64226cb3d2494b6952002e0239fda17f4025f097886093ed5a076fbd11553"), looks := true }, kinds := [], alts := [], laidByText := true, laidKinds := [.data, .wider, .wider, .data, .data, .pinned], laidTests := true, laidLooks := .later }
def DebctlJoinsUptoCardSaid : Prop := Claim7.holds Tryz.pinned (.plain (OpenSpec.upto debctlJoinsSpec)) debctlJoinsUptoCard

/-- THE SECOND FORM's CARD OF 'chandlerlaw13.SuseNames'. -/
def suseNamesUptoCard : Claim7 := { stood := { row := suseNamesUptoRow, standIns := [], harness := (true, "7da64226cb3d2494b6952002e0239fda17f4025f097886093ed5a076fbd11553"), looks := true }, kinds := [], alts := [], laidByText := true, laidKinds := [.data, .wider, .wider, .pinned], laidTests := true, laidLooks := .later }
def SuseNamesUptoCardSaid : Prop := Claim7.holds Tryz.pinned (.plain (OpenSpec.upto suseNamesSpec)) suseNamesUptoCard

/-- THE SECOND FORM's CARD OF 'chandlerlaw13.SuseReads'. -/
def suseReadsUptoCard : Claim7 := { stood := { row := suseReadsUptoRow, standIns := [], harness := (true, "7da64226cb3d2494b6952002e0239fda17f4025f097886093ed5a076fbd11553"), looks := true }, kinds := [], alts := [], laidByText := true, laidKinds := [.data, .wider, .wider, .pinned], laidTests := true, laidLooks := .later }
def SuseReadsUptoCardSaid : Prop := Claim7.holds Tryz.pinned (.plain (OpenSpec.upto suseReadsSpec)) suseReadsUptoCard

/-- THE SECOND FORM's CARD OF 'chandlerlaw13.SuseAgain'. -/
def suseAgainUptoCard : Claim7 := { stood := { row := suseAgainUptoRow, standIns := [], harness := (true, "7da64226cb3d2494b6952002e0239fda17f4025f097886093ed5a076fbd11553"), looks := true }, kinds := [], alts := [], laidByText := true, laidKinds := [.data, .wider, .wider, .data, .pinned], laidTests := true, laidLooks := .later }
def SuseAgainUptoCardSaid : Prop := Claim7.holds Tryz.pinned (.plain (OpenSpec.upto suseAgainSpec)) suseAgainUptoCard

/-- THE SECOND FORM's CARD OF 'chandlerlaw13.SuseJoins'. -/
def suseJoinsUptoCard : Claim7 := { stood := { row := suseJoinsUptoRow, standIns := [], harness := (true, "7da64226cb3d2494b6952002e0239fda17f4025f097886093ed5a076fbd11553"), looks := true }, kinds := [], alts := [], laidByText := true, laidKinds := [.data, .wider, .wider, .pinned], laidTests := true, laidLooks := .later }
def SuseJoinsUptoCardSaid : Prop := Claim7.holds Tryz.pinned (.plain (OpenSpec.upto suseJoinsSpec)) suseJoinsUptoCard

/-- THE SECOND FORM's CARD OF 'chandlerlaw13.SuseBlocks'. -/
def suseBlocksUptoCard : Claim7 := { stood := { row := suseBlocksUptoRow, standIns := [], harness := (true, "7da64226cb3d2494b6952002e0239fda17f4025f097886093ed5a076fbd11553"), looks := true }, kinds := [], alts := [], laidByText := true, laidKinds := [.data, .wider, .wider, .pinned], laidTests := true, laidLooks := .later }
def SuseBlocksUptoCardSaid : Prop := Claim7.holds Tryz.pinned (.plain (OpenSpec.upto suseBlocksSpec)) suseBlocksUptoCard
end Rows
end Go.Proofs.YtdhgiammfpjniaaGreatDoor
