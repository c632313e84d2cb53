/-
  DERIVED. GIVEN WITH THE SEED: THE CARDS: each row of YtoifibnmincodaaGreatDoorRows.lean that lists a variable, with what it lists TIED to the program's text (the seventh form; the later family's looks); each row that meets fmt, with fmt's text TOLD by the authors' own Lean function (tested against real Go, not proved from fmt's source: count such statements apart). THE CARD IS WHAT COUNTS. Prove the row's statement (the work); the ties are given (YtoifibnmincodaaGreatDoorTie.lean); close each card by the builder's one call (the guide's Derived/Test/ToyasCard.lean, 'card_holds'). Laid BY PROGRAM, IN A SANDBOX (cutbox-door.mjs). By AI agents, Wed Nov 11 2026. No macro, syntax, notation, axiom, sorry.
-/
import Derived.Test.YtoifibnmincodaaGreatDoorRows
import GoSem.ClaimSeven
namespace Go.Proofs.YtoifibnmincodaaGreatDoor
namespace Rows

/-- THE TIED CARD OF 'chandlerlaw10.XmlpullEscapes'. -/
def xmlpullEscapesCard : Claim7 := { stood := { row := xmlpullEscapesRow, standIns := [], harness := (true, "aa2e03ed70a602fc582349f88a94c2878992e7b6ef6f3c8462ef588279096a55"), looks := true }, kinds := [], alts := [], laidByText := true, laidKinds := [.data, .data, .data, .data, .sentinel, .sentinel, .data, .pinned], laidTests := true, laidLooks := .later }
def XmlpullEscapesCardSaid : Prop := Claim7.holds Tryz.pinned (.plain (OpenSpec.ofChange xmlpullEscapesSpec)) xmlpullEscapesCard

/-- THE TIED CARD OF 'chandlerlaw10.XmlpullQuiet'. -/
def xmlpullQuietCard : Claim7 := { stood := { row := xmlpullQuietRow, standIns := [], harness := (true, "aa2e03ed70a602fc582349f88a94c2878992e7b6ef6f3c8462ef588279096a55"), looks := true }, kinds := [], alts := [], laidByText := true, laidKinds := [.data, .data, .data, .data, .sentinel, .sentinel, .data, .pinned], laidTests := true, laidLooks := .later }
def XmlpullQuietCardSaid : Prop := Claim7.holds Tryz.pinned (.plain (OpenSpec.ofChange xmlpullQuietSpec)) xmlpullQuietCard

/-- THE TIED CARD OF 'chandlerlaw11.RpmmdNames'. -/
def rpmmdNamesCard : Claim7 := { stood := { row := rpmmdNamesRow, standIns := [], harness := (true, "aa2e03ed70a602fc582349f88a94c2878992e7b6ef6f3c8462ef588279096a55"), looks := true }, kinds := [], alts := [], laidByText := true, laidKinds := [.data, .data, .data, .data, .sentinel, .sentinel, .wider, .wider, .data, .data, .pinned], laidTests := true, laidLooks := .later }
def RpmmdNamesCardSaid : Prop := Claim7.holds Tryz.pinned (.plain (OpenSpec.ofChange rpmmdNamesSpec)) rpmmdNamesCard

/-- THE TIED CARD OF 'chandlerlaw11.RpmmdApart'. -/
def rpmmdApartCard : Claim7 := { stood := { row := rpmmdApartRow, standIns := [], harness := (true, "aa2e03ed70a602fc582349f88a94c2878992e7b6ef6f3c8462ef588279096a55"), looks := true }, kinds := [], alts := [], laidByText := true, laidKinds := [.data, .data, .data, .data, .sentinel, .sentinel, .wider, .wider, .data, .data, .pinned], laidTests := true, laidLooks := .later }
def RpmmdApartCardSaid : Prop := Claim7.holds Tryz.pinned (.plain (OpenSpec.ofChange rpmmdApartSpec)) rpmmdApartCard

/-- THE TIED CARD OF 'chandlerlaw11.RpmmdTypes'. -/
def rpmmdTypesCard : Claim7 := { stood := { row := rpmmdTypesRow, standIns := [], harness := (true, "aa2e03ed70a602fc582349f88a94c2878992e7b6ef6f3c8462ef588279096a55"), looks := true }, kinds := [], alts := [], laidByText := true, laidKinds := [.data, .data, .data, .data, .sentinel, .sentinel, .wider, .wider, .data, .data, .pinned], laidTests := true, laidLooks := .later }
def RpmmdTypesCardSaid : Prop := Claim7.holds Tryz.pinned (.plain (OpenSpec.ofChange rpmmdTypesSpec)) rpmmdTypesCard

/-- THE SECOND FORM's CARD OF 'chandlerlaw10.XmlpullEscapes'. -/
def xmlpullEscapesUptoCard : Claim7 := { stood := { row := xmlpullEscapesUptoRow, standIns := [], harness := (true, "aa2e03ed70a602fc582349f88a94c2878992e7b6ef6f3c8462ef588279096a55"), looks := true }, kinds := [], alts := [], laidByText := true, laidKinds := [.data, .data, .data, .data, .sentinel, .sentinel, .data, .pinned], laidTests := true, laidLooks := .later }
def XmlpullEscapesUptoCardSaid : Prop := Claim7.holds Tryz.pinned (.plain (OpenSpec.upto xmlpullEscapesSpec)) xmlpullEscapesUptoCard

/-- THE SECOND FORM's CARD OF 'chandlerlaw10.XmlpullQuiet'. -/
def xmlpullQuietUptoCard : Claim7 := { stood := { row := xmlpullQuietUptoRow, standIns := [], harness := (true, "aa2e03ed70a602fc582349f88a94c2878992e7b6ef6f3c8462ef588279096a55"), looks := true }, kinds := [], alts := [], laidByText := true, laidKinds := [.data, .data, .data, .data, .sentinel, .sentinel, .data, .pinned], laidTests := true, laidLooks := .later }
def XmlpullQuietUptoCardSaid : Prop := Claim7.holds Tryz.pinned (.plain (OpenSpec.upto xmlpullQuietSpec)) xmlpullQuietUptoCard

/-- THE SECOND FORM's CARD OF 'chandlerlaw11.RpmmdNames'. -/
def rpmmdNamesUptoCard : Claim7 := { stood := { row := rpmmdNamesUptoRow, standIns := [], harness := (true, "aa2e03ed70a602fc582349f88a94c2878992e7b6ef6f3c8462ef588279096a55"), looks := true }, kinds := [], alts := [], laidByText := true, laidKinds := [.data, .data, .data, .data, .sentinel, .sentinel, .wider, .wider, .data, .data, .pinned], laidTests := true, laidLooks := .later }
def RpmmdNamesUptoCardSaid : Prop := Claim7.holds Tryz.pinned (.plain (OpenSpec.upto rpmmdNamesSpec)) rpmmdNamesUptoCard

/-- THE SECOND FORM's CARD OF 'chandlerlaw11.RpmmdApart'. -/
def rpmmdApartUptoCard : Claim7 := { stood := { row := rpmmdApartUptoRow, standIns := [], harness := (true, "aa2e03ed70a602fc582349f88a94c2878992e7b6ef6f3c8462ef588279096a55"), looks := true }, kinds := [], alts := [], laidByText := true, laidKinds := [.data, .data, .data, .data, .sentinel, .sentinel, .wider, .wider, .data, .data, .pinned], laidTests := true, laidLooks := .later }
def RpmmdApartUptoCardSaid : Prop := Claim7.holds Tryz.pinned (.plain (OpenSpec.upto rpmmdApartSpec)) rpmmdApartUptoCard

/-- THE SECOND FORM's CARD OF 'chandlerlaw11.RpmmdTypes'. -/
def rpmmdTypesUptoCard : Claim7 := { stood := { row := rpmmdTypesUptoRow, standIns := [], harness := (true, "aa2e03ed70a602fc582349f88a94c2878992e7b6ef6f3c8462ef588279096a55"), looks := true }, kinds := [], alts := [], laidByText := true, laidKinds := [.data, .data, .data, .data, .sentinel, .sentinel, .wider, .wider, .data, .data, .pinned], laidTests := true, laidLooks := .later }
def RpmmdTypesUptoCardSaid : Prop := Claim7.holds Tryz.pinned (.plain (OpenSpec.upto rpmmdTypesSpec)) rpmmdTypesUptoCard
end Rows
end Go.Proofs.YtoifibnmincodaaGreatDoor
