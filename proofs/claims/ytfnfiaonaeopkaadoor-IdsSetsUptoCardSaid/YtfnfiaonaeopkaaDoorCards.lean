/-
  DERIVED. GIVEN WITH THE SEED: THE CARDS: each row of YtfnfiaonaeopkaaDoorRows.lean that lists a variable, with what it lists TIED to the program's text (the seventh form; the later family's looks); each row that meets fmt, with fmt's text TOLD by the authors' own Lean function (tested against real Go, not proved from fmt's source: count such statements apart). THE CARD IS WHAT COUNTS. Prove the row's statement (the work); the ties are given (YtfnfiaonaeopkaaDoorTie.lean); close each card by the builder's one call (the guide's Derived/Test/ToyasCard.lean, 'card_holds'). Laid BY PROGRAM, IN A SANDBOX (cutbox-door.mjs). By AI agents, Wed Nov 11 2026. No macro, syntax, notation, axiom, sorry.
-/
import Derived.Test.YtfnfiaonaeopkaaDoorRows
import GoSem.ClaimSeven
namespace Go.Proofs.YtfnfiaonaeopkaaDoor
namespace Rows

/-- THE TIED CARD OF 'chandlerlaw01.IdsBits'. -/
def idsBitsCard : Claim7 := { stood := { row := idsBitsRow, standIns := [], harness := (true, "7450a268b8d1c2ff5bbdc70cb90f46409bd6768d31f46a6a107ef8afd24bb362"), looks := false }, kinds := [], alts := [], laidByText := true, laidKinds := [.data], laidTests := true, laidLooks := .later }
def IdsBitsCardSaid : Prop := Claim7.holds Tryd.pinned (.plain (OpenSpec.ofChange idsBitsSpec)) idsBitsCard

/-- THE TIED CARD OF 'chandlerlaw01.IdsSets'. -/
def idsSetsCard : Claim7 := { stood := { row := idsSetsRow, standIns := [], harness := (true, "7450a268b8d1c2ff5bbdc70cb90f46409bd6768d31f46a6a107ef8afd24bb362"), looks := false }, kinds := [], alts := [], laidByText := true, laidKinds := [.data], laidTests := true, laidLooks := .later }
def IdsSetsCardSaid : Prop := Claim7.holds Tryd.pinned (.plain (OpenSpec.ofChange idsSetsSpec)) idsSetsCard

/-- THE SECOND FORM's CARD OF 'chandlerlaw01.IdsBits'. -/
def idsBitsUptoCard : Claim7 := { stood := { row := idsBitsUptoRow, standIns := [], harness := (true, "7450a268b8d1c2ff5bbdc70cb90f46409bd6768d31f46a6a107ef8afd24bb362"), looks := false }, kinds := [], alts := [], laidByText := true, laidKinds := [.data], laidTests := true, laidLooks := .later }
def IdsBitsUptoCardSaid : Prop := Claim7.holds Tryd.pinned (.plain (OpenSpec.upto idsBitsSpec)) idsBitsUptoCard

/-- THE SECOND FORM's CARD OF 'chandlerlaw01.IdsSets'. -/
def idsSetsUptoCard : Claim7 := { stood := { row := idsSetsUptoRow, standIns := [], harness := (true, "7450a268b8d1c2ff5bbdc70cb90f46409bd6768d31f46a6a107ef8afd24bb362"), looks := false }, kinds := [], alts := [], laidByText := true, laidKinds := [.data], laidTests := true, laidLooks := .later }
def IdsSetsUptoCardSaid : Prop := Claim7.holds Tryd.pinned (.plain (OpenSpec.upto idsSetsSpec)) idsSetsUptoCard
end Rows
end Go.Proofs.YtfnfiaonaeopkaaDoor
