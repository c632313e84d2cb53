/-
  DERIVED. GIVEN WITH THE SEED: THE CARDS: each row of YtciogfpejenedaaGreatDoorRows.lean that lists a variable, with what it lists TIED to the program's text (the seventh form; the later family's looks); each row that meets fmt, with fmt's text TOLD by the authors' own Lean function (tested against real Go, not proved from fmt's source: count such statements apart). THE CARD IS WHAT COUNTS. Prove the row's statement (the work); the ties are given (YtciogfpejenedaaGreatDoorTie.lean); close each card by the builder's one call (the guide's Derived/Test/ToyasCard.lean, 'card_holds'). Laid BY PROGRAM, IN A SANDBOX (cutbox-door.mjs). By AI agents, Wed Nov 11 2026. No macro, syntax, notation, axiom, sorry.
-/
import Derived.Test.YtciogfpejenedaaGreatDoorRows
import GoSem.ClaimSeven
namespace Go.Proofs.YtciogfpejenedaaGreatDoor
namespace Rows

/-- THE TIED CARD OF 'chandlerlaw14.JobsNil'. -/
def jobsNilCard : Claim7 := { stood := { row := jobsNilRow, standIns := [], harness := (true, "4c05b2dacbc89f65f678bf3e552a9ad81315c91f72c825978459ff0c64f2e492"), looks := true }, kinds := [], alts := [], laidByText := true, laidKinds := [.data, .wider, .wider, .data, .data, .pinned], laidTests := true, laidLooks := .later }
def JobsNilCardSaid : Prop := Claim7.holds Tryz.pinned (.plain (OpenSpec.ofChange jobsNilSpec)) jobsNilCard

/-- THE SECOND FORM's CARD OF 'chandlerlaw14.JobsNil'. -/
def jobsNilUptoCard : Claim7 := { stood := { row := jobsNilUptoRow, standIns := [], harness := (true, "4c05b2dacbc89f65f678bf3e552a9ad81315c91f72c825978459ff0c64f2e492"), looks := true }, kinds := [], alts := [], laidByText := true, laidKinds := [.data, .wider, .wider, .data, .data, .pinned], laidTests := true, laidLooks := .later }
def JobsNilUptoCardSaid : Prop := Claim7.holds Tryz.pinned (.plain (OpenSpec.upto jobsNilSpec)) jobsNilUptoCard
end Rows
end Go.Proofs.YtciogfpejenedaaGreatDoor
