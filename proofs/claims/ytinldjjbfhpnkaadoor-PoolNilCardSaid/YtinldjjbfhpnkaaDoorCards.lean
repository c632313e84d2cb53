/-
  DERIVED. GIVEN WITH THE SEED: THE CARDS: each row of YtinldjjbfhpnkaaDoorRows.lean that lists a variable, with what it lists TIED to the program's text (the seventh form; the later family's looks); each row that meets fmt, with fmt's text TOLD by the authors' own Lean function (tested against real Go, not proved from fmt's source: count such statements apart). THE CARD IS WHAT COUNTS. Prove the row's statement (the work); the ties are given (YtinldjjbfhpnkaaDoorTie.lean); close each card by the builder's one call (the guide's Derived/Test/ToyasCard.lean, 'card_holds'). Laid BY PROGRAM, IN A SANDBOX (cutbox-door.mjs). By AI agents, Wed Nov 11 2026. No macro, syntax, notation, axiom, sorry.
-/
import Derived.Test.YtinldjjbfhpnkaaDoorRows
import GoSem.ClaimSeven
namespace Go.Proofs.YtinldjjbfhpnkaaDoor
namespace Rows

/-- THE TIED CARD OF 'chandlerlaw06.PoolNames'. -/
def poolNamesCard : Claim7 := { stood := { row := poolNamesRow, standIns := [], harness := (true, "10f4f217d044bb2e8a281f06ce31f6ba577edb7c261f1940a0415778424865ba"), looks := true }, kinds := [], alts := [], laidByText := true, laidKinds := [.wider, .wider], laidTests := true, laidLooks := .later }
def PoolNamesCardSaid : Prop := Claim7.holds Tryd.pinned (.plain (OpenSpec.ofChange poolNamesSpec)) poolNamesCard

/-- THE TIED CARD OF 'chandlerlaw06.PoolChecks'. -/
def poolChecksCard : Claim7 := { stood := { row := poolChecksRow, standIns := [], harness := (true, "10f4f217d044bb2e8a281f06ce31f6ba577edb7c261f1940a0415778424865ba"), looks := true }, kinds := [], alts := [], laidByText := true, laidKinds := [.wider, .wider], laidTests := true, laidLooks := .later }
def PoolChecksCardSaid : Prop := Claim7.holds Tryd.pinned (.plain (OpenSpec.ofChange poolChecksSpec)) poolChecksCard

/-- THE TIED CARD OF 'chandlerlaw06.PoolStays'. -/
def poolStaysCard : Claim7 := { stood := { row := poolStaysRow, standIns := [], harness := (true, "10f4f217d044bb2e8a281f06ce31f6ba577edb7c261f1940a0415778424865ba"), looks := true }, kinds := [], alts := [], laidByText := true, laidKinds := [.wider, .wider], laidTests := true, laidLooks := .later }
def PoolStaysCardSaid : Prop := Claim7.holds Tryd.pinned (.plain (OpenSpec.ofChange poolStaysSpec)) poolStaysCard

/-- THE TIED CARD OF 'chandlerlaw06.PoolNil'. -/
def poolNilCard : Claim7 := { stood := { row := poolNilRow, standIns := [], harness := (true, "10f4f217d044bb2e8a281f06ce31f6ba577edb7c261f1940a0415778424865ba"), looks := true }, kinds := [], alts := [], laidByText := true, laidKinds := [.wider, .wider], laidTests := true, laidLooks := .later }
def PoolNilCardSaid : Prop := Claim7.holds Tryd.pinned (.plain (OpenSpec.ofChange poolNilSpec)) poolNilCard

/-- THE TIED CARD OF 'chandlerlaw06.PoolParts'. -/
def poolPartsCard : Claim7 := { stood := { row := poolPartsRow, standIns := [], harness := (true, "10f4f217d044bb2e8a281f06ce31f6ba577edb7c261f1940a0415778424865ba"), looks := true }, kinds := [], alts := [], laidByText := true, laidKinds := [.wider, .wider], laidTests := true, laidLooks := .later }
def PoolPartsCardSaid : Prop := Claim7.holds Tryd.pinned (.plain (OpenSpec.ofChange poolPartsSpec)) poolPartsCard

/-- THE SECOND FORM's CARD OF 'chandlerlaw06.PoolNames'. -/
def poolNamesUptoCard : Claim7 := { stood := { row := poolNamesUptoRow, standIns := [], harness := (true, "10f4f217d044bb2e8a281f06ce31f6ba577edb7c261f1940a0415778424865ba"), looks := true }, kinds := [], alts := [], laidByText := true, laidKinds := [.wider, .wider], laidTests := true, laidLooks := .later }
def PoolNamesUptoCardSaid : Prop := Claim7.holds Tryd.pinned (.plain (OpenSpec.upto poolNamesSpec)) poolNamesUptoCard

/-- THE SECOND FORM's CARD OF 'chandlerlaw06.PoolChecks'. -/
def poolChecksUptoCard : Claim7 := { stood := { row := poolChecksUptoRow, standIns := [], harness := (true, "10f4f217d044bb2e8a281f06ce31f6ba577edb7c261f1940a0415778424865ba"), looks := true }, kinds := [], alts := [], laidByText := true, laidKinds := [.wider, .wider], laidTests := true, laidLooks := .later }
def PoolChecksUptoCardSaid : Prop := Claim7.holds Tryd.pinned (.plain (OpenSpec.upto poolChecksSpec)) poolChecksUptoCard

/-- THE SECOND FORM's CARD OF 'chandlerlaw06.PoolStays'. -/
def poolStaysUptoCard : Claim7 := { stood := { row := poolStaysUptoRow, standIns := [], harness := (true, "10f4f217d044bb2e8a281f06ce31f6ba577edb7c261f1940a0415778424865ba"), looks := true }, kinds := [], alts := [], laidByText := true, laidKinds := [.wider, .wider], laidTests := true, laidLooks := .later }
def PoolStaysUptoCardSaid : Prop := Claim7.holds Tryd.pinned (.plain (OpenSpec.upto poolStaysSpec)) poolStaysUptoCard

/-- THE SECOND FORM's CARD OF 'chandlerlaw06.PoolNil'. -/
def poolNilUptoCard : Claim7 := { stood := { row := poolNilUptoRow, standIns := [], harness := (true, "10f4f217d044bb2e8a281f06ce31f6ba577edb7c261f1940a0415778424865ba"), looks := true }, kinds := [], alts := [], laidByText := true, laidKinds := [.wider, .wider], laidTests := true, laidLooks := .later }
def PoolNilUptoCardSaid : Prop := Claim7.holds Tryd.pinned (.plain (OpenSpec.upto poolNilSpec)) poolNilUptoCard

/-- THE SECOND FORM's CARD OF 'chandlerlaw06.PoolParts'. -/
def poolPartsUptoCard : Claim7 := { stood := { row := poolPartsUptoRow, standIns := [], harness := (true, "10f4f217d044bb2e8a281f06ce31f6ba577edb7c261f1940a0415778424865ba"), looks := true }, kinds := [], alts := [], laidByText := true, laidKinds := [.wider, .wider], laidTests := true, laidLooks := .later }
def PoolPartsUptoCardSaid : Prop := Claim7.holds Tryd.pinned (.plain (OpenSpec.upto poolPartsSpec)) poolPartsUptoCard
end Rows
end Go.Proofs.YtinldjjbfhpnkaaDoor
