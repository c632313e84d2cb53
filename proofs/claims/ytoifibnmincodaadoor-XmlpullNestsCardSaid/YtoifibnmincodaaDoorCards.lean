/-
  DERIVED. GIVEN WITH THE SEED: THE CARDS: each row of YtoifibnmincodaaDoorRows.lean that lists a variable, with what it lists TIED to the program's text (the seventh form; the later family's looks); each row that meets fmt, with fmt's text TOLD by the authors' own Lean function (tested against real Go, not proved from fmt's source: count such statements apart). THE CARD IS WHAT COUNTS. Prove the row's statement (the work); the ties are given (YtoifibnmincodaaDoorTie.lean); close each card by the builder's one call (the guide's Derived/Test/ToyasCard.lean, 'card_holds'). Laid BY PROGRAM, IN A SANDBOX (cutbox-door.mjs). By AI agents, Wed Nov 11 2026. No macro, syntax, notation, axiom, sorry.
-/
import Derived.Test.YtoifibnmincodaaDoorRows
import GoSem.ClaimSeven
namespace Go.Proofs.YtoifibnmincodaaDoor
namespace Rows

/-- THE TIED CARD OF 'chandlerlaw10.XmlpullNests'. -/
def xmlpullNestsCard : Claim7 := { stood := { row := xmlpullNestsRow, standIns := [], harness := (true, "cc5660ed6c09a4336ab12ef9ee13d3029064cae31e7ea04cc474a08de69a423d"), looks := true }, kinds := [], alts := [], laidByText := true, laidKinds := [.data, .data, .data, .data, .sentinel, .sentinel, .data, .pinned], laidTests := true, laidLooks := .later }
def XmlpullNestsCardSaid : Prop := Claim7.holds Tryd.pinned (.plain (OpenSpec.ofChange xmlpullNestsSpec)) xmlpullNestsCard

/-- THE SECOND FORM's CARD OF 'chandlerlaw10.XmlpullNests'. -/
def xmlpullNestsUptoCard : Claim7 := { stood := { row := xmlpullNestsUptoRow, standIns := [], harness := (true, "cc5660ed6c09a4336ab12ef9ee13d3029064cae31e7ea04cc474a08de69a423d"), looks := true }, kinds := [], alts := [], laidByText := true, laidKinds := [.data, .data, .data, .data, .sentinel, .sentinel, .data, .pinned], laidTests := true, laidLooks := .later }
def XmlpullNestsUptoCardSaid : Prop := Claim7.holds Tryd.pinned (.plain (OpenSpec.upto xmlpullNestsSpec)) xmlpullNestsUptoCard
end Rows
end Go.Proofs.YtoifibnmincodaaDoor
