/-
  DERIVED. GIVEN WITH THE SEED: THE CARDS: each row of YtljldbdjkjllhaaGreatDoorRows.lean that lists a variable, with what it lists TIED to the program's text (the seventh form; the later family's looks); each row that meets fmt, with fmt's text TOLD by the authors' own Lean function (tested against real Go, not proved from fmt's source: count such statements apart). THE CARD IS WHAT COUNTS. Prove the row's statement (the work); the ties are given (YtljldbdjkjllhaaGreatDoorTie.lean); close each card by the builder's one call (the guide's Derived/Test/ToyasCard.lean, 'card_holds'). Laid BY PROGRAM, IN A SANDBOX (cutbox-door.mjs). By AI agents, Wed Nov 11 2026. No macro, syntax, notation, axiom, sorry.
-/
import Derived.Test.YtljldbdjkjllhaaGreatDoorRows
import GoSem.ClaimSeven
namespace Go.Proofs.YtljldbdjkjllhaaGreatDoor
namespace Rows

/-- THE TIED CARD OF 'chandlerlaw11.RpmmdNames'. -/
def rpmmdNamesCard : Claim7 := { stood := { row := rpmmdNamesRow, standIns := [], harness := (true, "fdb74e9e5663d3eb31307a23802aec89dbda97daae078e4892e287c62a487d95"), looks := true }, kinds := [], alts := [], laidByText := true, laidKinds := [.data, .data, .data, .data, .sentinel, .sentinel, .wider, .wider, .data, .data, .pinned], laidTests := true, laidLooks := .later }
def RpmmdNamesCardSaid : Prop := Claim7.holds Tryz.pinned (.plain (OpenSpec.ofChange rpmmdNamesSpec)) rpmmdNamesCard

/-- THE TIED CARD OF 'chandlerlaw11.RpmmdApart'. -/
def rpmmdApartCard : Claim7 := { stood := { row := rpmmdApartRow, standIns := [], harness := (true, "fdb74e9e5663d3eb31307a23802aec89dbda97daae078e4892e287c62a487d95"), looks := true }, kinds := [], alts := [], laidByText := true, laidKinds := [.data, .data, .data, .data, .sentinel, .sentinel, .wider, .wider, .data, .data, .pinned], laidTests := true, laidLooks := .later }
def RpmmdApartCardSaid : Prop := Claim7.holds Tryz.pinned (.plain (OpenSpec.ofChange rpmmdApartSpec)) rpmmdApartCard

/-- THE TIED CARD OF 'chandlerlaw11.RpmmdTypes'. -/
def rpmmdTypesCard : Claim7 := { stood := { row := rpmmdTypesRow, standIns := [], harness := (true, "fdb74e9e5663d3eb31307a23802aec89dbda97daae078e4892e287c62a487d95"), looks := true }, kinds := [], alts := [], laidByText := true, laidKinds := [.data, .data, .data, .data, .sentinel, .sentinel, .wider, .wider, .data, .data, .pinned], laidTests := true, laidLooks := .later }
def RpmmdTypesCardSaid : Prop := Claim7.holds Tryz.pinned (.plain (OpenSpec.ofChange rpmmdTypesSpec)) rpmmdTypesCard

/-- THE TIED CARD OF 'chandlerlaw12.DebctlNames'. -/
def debctlNamesCard : Claim7 := { stood := { row := debctlNamesRow, standIns := [], harness := (true, "fdb74e9e5663d3eb31307a23802aec89dbda97daae078e4892e287c62a487d95"), looks := true }, kinds := [], alts := [], laidByText := true, laidKinds := [.data, .wider, .wider, .data, .data, .pinned], laidTests := true, laidLooks := .later }
def DebctlNamesCardSaid : Prop := Claim7.holds Tryz.pinned (.plain (OpenSpec.ofChange debctlNamesSpec)) debctlNamesCard

/-- THE TIED CARD OF 'chandlerlaw12.DebctlReads'. -/
def debctlReadsCard : Claim7 := { stood := { row := debctlReadsRow, standIns := [], harness := (true, "fdb74e9e5663d3eb31307a23802aec89dbda97daae078e4892e287c62a487d95"), looks := true }, kinds := [], alts := [], laidByText := true, laidKinds := [.data, .wider, .wider, .data, .data, .pinned], laidTests := true, laidLooks := .later }
def DebctlReadsCardSaid : Prop := Claim7.holds Tryz.pinned (.plain (OpenSpec.ofChange debctlReadsSpec)) debctlReadsCard

/-- THE TIED CARD OF 'chandlerlaw12.DebctlAgain'. -/
def debctlAgainCard : Claim7 := { stood := { row := debctlAgainRow, standIns := [], harness := (true, "fdb74e9e5663d3eb31307a23802aec89dbda97daae078e4892e287c62a487d95"), looks := true }, kinds := [], alts := [], laidByText := true, laidKinds := [.data, .wider, .wider, .data, .data, .pinned], laidTests := true, laidLooks := .later }
def DebctlAgainCardSaid : Prop := Claim7.holds Tryz.pinned (.plain (OpenSpec.ofChange debctlAgainSpec)) debctlAgainCard

/-- THE TIED CARD OF 'chandlerlaw12.DebctlJoins'. -/
def debctlJoinsCard : Claim7 := { stood := { row := debctlJoinsRow, standIns := [], harness := (true, "fdb74e9e5663d3eb31307a23802aec89dbda97daae078e4892e287c62a487d95"), looks := true }, kinds := [], alts := [], laidByText := true, laidKinds := [.data, .wider, .wider, .data, .data, .pinned], laidTests := true, laidLooks := .later }
def DebctlJoinsCardSaid : Prop := Claim7.holds Tryz.pinned (.plain (OpenSpec.ofChange debctlJoinsSpec)) debctlJoinsCard

/-- THE TIED CARD OF 'chandlerlaw12.DebctlNotes'. -/
def debctlNotesCard : Claim7 := { stood := { row := debctlNotesRow, standIns := [], harness := (true, "fdb74e9e5663d3eb31307a23802aec89dbda97daae078e4892e287c62a487d95"), looks := true }, kinds := [], alts := [], laidByText := true, laidKinds := [.data, .wider, .wider, .data, .data, .pinned], laidTests := true, laidLooks := .later }
def DebctlNotesCardSaid : Prop := Claim7.holds Tryz.pinned (.plain (OpenSpec.ofChange debctlNotesSpec)) debctlNotesCard

/-- THE SECOND FORM's CARD OF 'chandlerlaw11.RpmmdNames'. -/
def rpmmdNamesUptoCard : Claim7 := { stood := { row := rpmmdNamesUptoRow, standIns := [], harness := (true, "fdb74e9e5663d3eb31307a23802aec89dbda97daae078e4892e287c62a487d95"), looks := true }, kinds := [], alts := [], laidByText := true, laidKinds := [.data, .data, .data, .data, .sentinel, .sentinel, .wider, .wider, .data, .data, .pinned], laidTests := true, laidLooks := .later }
def RpmmdNamesUptoCardSaid : Prop := Claim7.holds Tryz.pinned (.plain (OpenSpec.upto rpmmdNamesSpec)) rpmmdNamesUptoCard

/-- THE SECOND FORM's CARD OF 'chandlerlaw11.RpmmdApart'. -/
def rpmmdApartUptoCard : Claim7 := { stood := { row := rpmmdApartUptoRow, standIns := [], harness := (true, "fdb74e9e5663d3eb31307a23802aec89dbda97daae078e4892e287c62a487d95"), looks := true }, kinds := [], alts := [], laidByText := true, laidKinds := [.data, .data, .data, .data, .sentinel, .sentinel, .wider, .wider, .data, .data, .pinned], laidTests := true, laidLooks := .later }
def RpmmdApartUptoCardSaid : Prop := Claim7.holds Tryz.pinned (.plain (OpenSpec.upto rpmmdApartSpec)) rpmmdApartUptoCard

/-- THE SECOND FORM's CARD OF 'chandlerlaw11.RpmmdTypes'. -/
def rpmmdTypesUptoCard : Claim7 := { stood := { row := rpmmdTypesUptoRow, standIns := [], harness := (true, "fdb74e9e5663d3eb31307a23802aec89dbda97daae078e4892e287c62a487d95"), looks := true }, kinds := [], alts := [], laidByText := true, laidKinds := [.data, .data, .data, .data, .sentinel, .sentinel, .wider, .wider, .data, .data, .pinned], laidTests := true, laidLooks := .later }
def RpmmdTypesUptoCardSaid : Prop := Claim7.holds Tryz.pinned (.plain (OpenSpec.upto rpmmdTypesSpec)) rpmmdTypesUptoCard

/-- THE SECOND FORM's CARD OF 'chandlerlaw12.DebctlNames'. -/
def debctlNamesUptoCard : Claim7 := { stood := { row := debctlNamesUptoRow, standIns := [], harness := (true, "fdb74e9e5663d3eb31307a23802aec89dbda97daae078e4892e287c62a487d95"), looks := true }, kinds := [], alts := [], laidByText := true, laidKinds := [.data, .wider, .wider, .data, .data, .pinned], laidTests := true, laidLooks := .later }
def DebctlNamesUptoCardSaid : Prop := Claim7.holds Tryz.pinned (.plain (OpenSpec.upto debctlNamesSpec)) debctlNamesUptoCard

/-- THE SECOND FORM's CARD OF 'chandlerlaw12.DebctlReads'. -/
def debctlReadsUptoCard : Claim7 := { stood := { row := debctlReadsUptoRow, standIns := [], harness := (true, "fdb74e9e5663d3eb31307a23802aec89dbda97daae078e4892e287c62a487d95"), looks := true }, kinds := [], alts := [], laidByText := true, laidKinds := [.data, .wider, .wider, .data, .data, .pinned], laidTests := true, laidLooks := .later }
def DebctlReadsUptoCardSaid : Prop := Claim7.holds Tryz.pinned (.plain (OpenSpec.upto debctlReadsSpec)) debctlReadsUptoCard

/-- THE SECOND FORM's CARD OF 'chandlerlaw12.DebctlAgain'. -/
def debctlAgainUptoCard : Claim7 := { stood := { row := debctlAgainUptoRow, standIns := [], harness := (true, "fdb74e9e5663d3eb31307a23802aec89dbda97daae078e4892e287c62a487d95"), looks := true }, kinds := [], alts := [], laidByText := true, laidKinds := [.data, .wider, .wider, .data, .data, .pinned], laidTests := true, laidLooks := .later }
def DebctlAgainUptoCardSaid : Prop := Claim7.holds Tryz.pinned (.plain (OpenSpec.upto debctlAgainSpec)) debctlAgainUptoCard

/-- THE SECOND FORM's CARD OF 'chandlerlaw12.DebctlJoins'. -/
def debctlJoinsUptoCard : Claim7 := { stood := { row := debctlJoinsUptoRow, standIns := [], harness := (true, "fdb74e9e5663d3eb31307a23802aec89dbda97daae078e4892e287c62a487d95"), looks := true }, kinds := [], alts := [], laidByText := true, laidKinds := [.data, .wider, .wider, .data, .data, .pinned], laidTests := true, laidLooks := .later }
def DebctlJoinsUptoCardSaid : Prop := Claim7.holds Tryz.pinned (.plain (OpenSpec.upto debctlJoinsSpec)) debctlJoinsUptoCard

/-- THE SECOND FORM's CARD OF 'chandlerlaw12.DebctlNotes'. -/
def debctlNotesUptoCard : Claim7 := { stood := { row := debctlNotesUptoRow, standIns := [], harness := (true, "fdb74e9e5663d3eb31307a23802aec89dbda97daae078e4892e287c62a487d95"), looks := true }, kinds := [], alts := [], laidByText := true, laidKinds := [.data, .wider, .wider, .data, .data, .pinned], laidTests := true, laidLooks := .later }
def DebctlNotesUptoCardSaid : Prop := Claim7.holds Tryz.pinned (.plain (OpenSpec.upto debctlNotesSpec)) debctlNotesUptoCard
end Rows
end Go.Proofs.YtljldbdjkjllhaaGreatDoor
