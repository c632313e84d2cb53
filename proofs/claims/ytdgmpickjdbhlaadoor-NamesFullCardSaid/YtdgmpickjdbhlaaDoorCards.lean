/-
  DERIVED. GIVEN WITH THE SEED: THE CARDS: each row of YtdgmpickjdbhlaaDoorRows.lean that lists a variable, with what it lists TIED to the program's text (the seventh form; the later family's looks); each row that meets fmt, with fmt's text TOLD by the authors' own Lean function (tested against real Go, not proved from fmt's source: count such statements apart). THE CARD IS WHAT COUNTS. Prove the row's statement (the work); the ties are given (YtdgmpickjdbhlaaDoorTie.lean); close each card by the builder's one call (the guide's Derived/Test/ToyasCard.lean, 'card_holds'). Laid BY PROGRAM, IN A SANDBOX (cutbox-door.mjs). By AI agents, Wed Nov 11 2026. No macro, syntax, notation, axiom, sorry.
-/
import Derived.Test.YtdgmpickjdbhlaaDoorRows
import GoSem.ClaimSeven
namespace Go.Proofs.YtdgmpickjdbhlaaDoor
namespace Rows

/-- THE TIED CARD OF 'chandlerlaw02.NamesFull'. -/
def namesFullCard : Claim7 := { stood := { row := namesFullRow, standIns := [], harness := (true, "d50f27731dd6aa2fc5780b46a8502c05f523aba6c786e5d2c48f3bc1d95b1926"), looks := false }, kinds := [], alts := [], laidByText := true, laidKinds := [.data, .data, .data], laidTests := true, laidLooks := .later }
def NamesFullCardSaid : Prop := Claim7.holds Tryd.pinned (.plain (OpenSpec.ofChange namesFullSpec)) namesFullCard

/-- THE SECOND FORM's CARD OF 'chandlerlaw02.NamesFull'. -/
def namesFullUptoCard : Claim7 := { stood := { row := namesFullUptoRow, standIns := [], harness := (true, "d50f27731dd6aa2fc5780b46a8502c05f523aba6c786e5d2c48f3bc1d95b1926"), looks := false }, kinds := [], alts := [], laidByText := true, laidKinds := [.data, .data, .data], laidTests := true, laidLooks := .later }
def NamesFullUptoCardSaid : Prop := Claim7.holds Tryd.pinned (.plain (OpenSpec.upto namesFullSpec)) namesFullUptoCard
end Rows
end Go.Proofs.YtdgmpickjdbhlaaDoor
