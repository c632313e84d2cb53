/-
  DERIVED. GIVEN WITH THE SEED: THE CARDS: each row of YtchkjknpmpbfhaaDoorRows.lean that lists a variable, with what it lists TIED to the program's text (the seventh form; the later family's looks); each row that meets fmt, with fmt's text TOLD by the authors' own Lean function (tested against real Go, not proved from fmt's source: count such statements apart). THE CARD IS WHAT COUNTS. Prove the row's statement (the work); the ties are given (YtchkjknpmpbfhaaDoorTie.lean); close each card by the builder's one call (the guide's Derived/Test/ToyasCard.lean, 'card_holds'). Laid BY PROGRAM, IN A SANDBOX (cutbox-door.mjs). By AI agents, Wed Nov 11 2026. No macro, syntax, notation, axiom, sorry.
-/
import Derived.Test.YtchkjknpmpbfhaaDoorRows
import GoSem.ClaimSeven
namespace Go.Proofs.YtchkjknpmpbfhaaDoor
namespace Rows

/-- THE TIED CARD OF 'chandlerlaw10.XmlpullNames'. -/
def xmlpullNamesCard : Claim7 := { stood := { row := xmlpullNamesRow, standIns := [], harness := (true, "18dd0902b71bada179276566ac636479c188e5f5ff3de282316f66947d85797a"), looks := true }, kinds := [], alts := [], laidByText := true, laidKinds := [.data, .data, .data, .data, .sentinel, .sentinel, .data, .pinned], laidTests := true, laidLooks := .later }
def XmlpullNamesCardSaid : Prop := Claim7.holds Tryd.pinned (.plain (OpenSpec.ofChange xmlpullNamesSpec)) xmlpullNamesCard

/-- THE TIED CARD OF 'chandlerlaw10.XmlpullSteps'. -/
def xmlpullStepsCard : Claim7 := { stood := { row := xmlpullStepsRow, standIns := [], harness := (true, "18dd0902b71bada179276566ac636479c188e5f5ff3de282316f66947d85797a"), looks := true }, kinds := [], alts := [], laidByText := true, laidKinds := [.data, .data, .data, .data, .sentinel, .sentinel, .data, .pinned], laidTests := true, laidLooks := .later }
def XmlpullStepsCardSaid : Prop := Claim7.holds Tryd.pinned (.plain (OpenSpec.ofChange xmlpullStepsSpec)) xmlpullStepsCard

/-- THE TIED CARD OF 'chandlerlaw10.XmlpullNests'. -/
def xmlpullNestsCard : Claim7 := { stood := { row := xmlpullNestsRow, standIns := [], harness := (true, "18dd0902b71bada179276566ac636479c188e5f5ff3de282316f66947d85797a"), looks := true }, kinds := [], alts := [], laidByText := true, laidKinds := [.data, .data, .data, .data, .sentinel, .sentinel, .data, .pinned], laidTests := true, laidLooks := .later }
def XmlpullNestsCardSaid : Prop := Claim7.holds Tryd.pinned (.plain (OpenSpec.ofChange xmlpullNestsSpec)) xmlpullNestsCard

/-- THE TIED CARD OF 'chandlerlaw10.XmlpullNil'. -/
def xmlpullNilCard : Claim7 := { stood := { row := xmlpullNilRow, standIns := [], harness := (true, "18dd0902b71bada179276566ac636479c188e5f5ff3de282316f66947d85797a"), looks := true }, kinds := [], alts := [], laidByText := true, laidKinds := [.data, .data, .data, .data, .sentinel, .sentinel, .data, .pinned], laidTests := true, laidLooks := .later }
def XmlpullNilCardSaid : Prop := Claim7.holds Tryd.pinned (.plain (OpenSpec.ofChange xmlpullNilSpec)) xmlpullNilCard

/-- THE SECOND FORM's CARD OF 'chandlerlaw10.XmlpullNames'. -/
def xmlpullNamesUptoCard : Claim7 := { stood := { row := xmlpullNamesUptoRow, standIns := [], harness := (true, "18dd0902b71bada179276566ac636479c188e5f5ff3de282316f66947d85797a"), looks := true }, kinds := [], alts := [], laidByText := true, laidKinds := [.data, .data, .data, .data, .sentinel, .sentinel, .data, .pinned], laidTests := true, laidLooks := .later }
def XmlpullNamesUptoCardSaid : Prop := Claim7.holds Tryd.pinned (.plain (OpenSpec.upto xmlpullNamesSpec)) xmlpullNamesUptoCard

/-- THE SECOND FORM's CARD OF 'chandlerlaw10.XmlpullSteps'. -/
def xmlpullStepsUptoCard : Claim7 := { stood := { row := xmlpullStepsUptoRow, standIns := [], harness := (true, "18dd0902b71bada179276566ac636479c188e5f5ff3de282316f66947d85797a"), looks := true }, kinds := [], alts := [], laidByText := true, laidKinds := [.data, .data, .data, .data, .sentinel, .sentinel, .data, .pinned], laidTests := true, laidLooks := .later }
def XmlpullStepsUptoCardSaid : Prop := Claim7.holds Tryd.pinned (.plain (OpenSpec.upto xmlpullStepsSpec)) xmlpullStepsUptoCard

/-- THE SECOND FORM's CARD OF 'chandlerlaw10.XmlpullNests'. -/
def xmlpullNestsUptoCard : Claim7 := { stood := { row := xmlpullNestsUptoRow, standIns := [], harness := (true, "18dd0902b71bada179276566ac636479c188e5f5ff3de282316f66947d85797a"), looks := true }, kinds := [], alts := [], laidByText := true, laidKinds := [.data, .data, .data, .data, .sentinel, .sentinel, .data, .pinned], laidTests := true, laidLooks := .later }
def XmlpullNestsUptoCardSaid : Prop := Claim7.holds Tryd.pinned (.plain (OpenSpec.upto xmlpullNestsSpec)) xmlpullNestsUptoCard

/-- THE SECOND FORM's CARD OF 'chandlerlaw10.XmlpullNil'. -/
def xmlpullNilUptoCard : Claim7 := { stood := { row := xmlpullNilUptoRow, standIns := [], harness := (true, "18dd0902b71bada179276566ac636479c188e5f5ff3de282316f66947d85797a"), looks := true }, kinds := [], alts := [], laidByText := true, laidKinds := [.data, .data, .data, .data, .sentinel, .sentinel, .data, .pinned], laidTests := true, laidLooks := .later }
def XmlpullNilUptoCardSaid : Prop := Claim7.holds Tryd.pinned (.plain (OpenSpec.upto xmlpullNilSpec)) xmlpullNilUptoCard
end Rows
end Go.Proofs.YtchkjknpmpbfhaaDoor
