/-
  DERIVED. GIVEN WITH THE SEED: THE CARDS: each row of YtpmfmkpfjomgnaaGreatDoorRows.lean that lists a variable, with what it lists TIED to the program's text (the seventh form; the later family's looks); each row that meets fmt, with fmt's text TOLD by the authors' own Lean function (tested against real Go, not proved from fmt's source: count such statements apart). THE CARD IS WHAT COUNTS. Prove the row's statement (the work); the ties are given (YtpmfmkpfjomgnaaGreatDoorTie.lean); close each card by the builder's one call (the guide's Derived/Test/ToyasCard.lean, 'card_holds'). Laid BY PROGRAM, IN A SANDBOX (cutbox-door.mjs). By AI agents, Wed Nov 11 2026. No macro, syntax, notation, axiom, sorry.
-/
import Derived.Test.YtpmfmkpfjomgnaaGreatDoorRows
import GoSem.ClaimSeven
namespace Go.Proofs.YtpmfmkpfjomgnaaGreatDoor
namespace Rows

/-- THE TIED CARD OF 'chandlerlaw06.PoolAdds'. -/
def poolAddsCard : Claim7 := { stood := { row := poolAddsRow, standIns := [], harness := (true, "74f247c8541814142e5a2741b9040d4443cc1ac6d4a5140536d59c27343b1506"), looks := true }, kinds := [], alts := [], laidByText := true, laidKinds := [.wider, .wider], laidTests := true, laidLooks := .later }
def PoolAddsCardSaid : Prop := Claim7.holds Tryz.pinned (.plain (OpenSpec.ofChange poolAddsSpec)) poolAddsCard

/-- THE TIED CARD OF 'chandlerlaw07.ProvidesNames'. -/
def providesNamesCard : Claim7 := { stood := { row := providesNamesRow, standIns := [], harness := (true, "74f247c8541814142e5a2741b9040d4443cc1ac6d4a5140536d59c27343b1506"), looks := true }, kinds := [], alts := [], laidByText := true, laidKinds := [.data, .wider, .wider, .pinned], laidTests := true, laidLooks := .later }
def ProvidesNamesCardSaid : Prop := Claim7.holds Tryz.pinned (.plain (OpenSpec.ofChange providesNamesSpec)) providesNamesCard

/-- THE TIED CARD OF 'chandlerlaw07.ProvidesNil'. -/
def providesNilCard : Claim7 := { stood := { row := providesNilRow, standIns := [], harness := (true, "74f247c8541814142e5a2741b9040d4443cc1ac6d4a5140536d59c27343b1506"), looks := true }, kinds := [], alts := [], laidByText := true, laidKinds := [.data, .wider, .wider, .pinned], laidTests := true, laidLooks := .later }
def ProvidesNilCardSaid : Prop := Claim7.holds Tryz.pinned (.plain (OpenSpec.ofChange providesNilSpec)) providesNilCard

/-- THE TIED CARD OF 'chandlerlaw09.CacheNames'. -/
def cacheNamesCard : Claim7 := { stood := { row := cacheNamesRow, standIns := [], harness := (true, "74f247c8541814142e5a2741b9040d4443cc1ac6d4a5140536d59c27343b1506"), looks := true }, kinds := [], alts := [], laidByText := true, laidKinds := [.wider, .wider], laidTests := true, laidLooks := .later }
def CacheNamesCardSaid : Prop := Claim7.holds Tryz.pinned (.plain (OpenSpec.ofChange cacheNamesSpec)) cacheNamesCard

/-- THE TIED CARD OF 'chandlerlaw09.CacheBack'. -/
def cacheBackCard : Claim7 := { stood := { row := cacheBackRow, standIns := [], harness := (true, "74f247c8541814142e5a2741b9040d4443cc1ac6d4a5140536d59c27343b1506"), looks := true }, kinds := [], alts := [], laidByText := true, laidKinds := [.wider, .wider], laidTests := true, laidLooks := .later }
def CacheBackCardSaid : Prop := Claim7.holds Tryz.pinned (.plain (OpenSpec.ofChange cacheBackSpec)) cacheBackCard

/-- THE TIED CARD OF 'chandlerlaw09.CacheReads'. -/
def cacheReadsCard : Claim7 := { stood := { row := cacheReadsRow, standIns := [], harness := (true, "74f247c8541814142e5a2741b9040d4443cc1ac6d4a5140536d59c27343b1506"), looks := true }, kinds := [], alts := [], laidByText := true, laidKinds := [.wider, .wider], laidTests := true, laidLooks := .later }
def CacheReadsCardSaid : Prop := Claim7.holds Tryz.pinned (.plain (OpenSpec.ofChange cacheReadsSpec)) cacheReadsCard

/-- THE TIED CARD OF 'chandlerlaw09.CacheSmall'. -/
def cacheSmallCard : Claim7 := { stood := { row := cacheSmallRow, standIns := [], harness := (true, "74f247c8541814142e5a2741b9040d4443cc1ac6d4a5140536d59c27343b1506"), looks := true }, kinds := [], alts := [], laidByText := true, laidKinds := [.wider, .wider], laidTests := true, laidLooks := .later }
def CacheSmallCardSaid : Prop := Claim7.holds Tryz.pinned (.plain (OpenSpec.ofChange cacheSmallSpec)) cacheSmallCard

/-- THE TIED CARD OF 'chandlerlaw09.CacheOnce'. -/
def cacheOnceCard : Claim7 := { stood := { row := cacheOnceRow, standIns := [], harness := (true, "74f247c8541814142e5a2741b9040d4443cc1ac6d4a5140536d59c27343b1506"), looks := true }, kinds := [], alts := [], laidByText := true, laidKinds := [.wider, .wider], laidTests := true, laidLooks := .later }
def CacheOnceCardSaid : Prop := Claim7.holds Tryz.pinned (.plain (OpenSpec.ofChange cacheOnceSpec)) cacheOnceCard

/-- THE TIED CARD OF 'chandlerlaw09.CacheNil'. -/
def cacheNilCard : Claim7 := { stood := { row := cacheNilRow, standIns := [], harness := (true, "74f247c8541814142e5a2741b9040d4443cc1ac6d4a5140536d59c27343b1506"), looks := true }, kinds := [], alts := [], laidByText := true, laidKinds := [.wider, .wider], laidTests := true, laidLooks := .later }
def CacheNilCardSaid : Prop := Claim7.holds Tryz.pinned (.plain (OpenSpec.ofChange cacheNilSpec)) cacheNilCard

/-- THE TIED CARD OF 'chandlerlaw09.CacheApart'. -/
def cacheApartCard : Claim7 := { stood := { row := cacheApartRow, standIns := [], harness := (true, "74f247c8541814142e5a2741b9040d4443cc1ac6d4a5140536d59c27343b1506"), looks := true }, kinds := [], alts := [], laidByText := true, laidKinds := [.wider, .wider], laidTests := true, laidLooks := .later }
def CacheApartCardSaid : Prop := Claim7.holds Tryz.pinned (.plain (OpenSpec.ofChange cacheApartSpec)) cacheApartCard

/-- THE SECOND FORM's CARD OF 'chandlerlaw06.PoolAdds'. -/
def poolAddsUptoCard : Claim7 := { stood := { row := poolAddsUptoRow, standIns := [], harness := (true, "74f247c8541814142e5a2741b9040d4443cc1ac6d4a5140536d59c27343b1506"), looks := true }, kinds := [], alts := [], laidByText := true, laidKinds := [.wider, .wider], laidTests := true, laidLooks := .later }
def PoolAddsUptoCardSaid : Prop := Claim7.holds Tryz.pinned (.plain (OpenSpec.upto poolAddsSpec)) poolAddsUptoCard

/-- THE SECOND FORM's CARD OF 'chandlerlaw07.ProvidesNames'. -/
def providesNamesUptoCard : Claim7 := { stood := { row := providesNamesUptoRow, standIns := [], harness := (true, "74f247c8541814142e5a2741b9040d4443cc1ac6d4a5140536d59c27343b1506"), looks := true }, kinds := [], alts := [], laidByText := true, laidKinds := [.data, .wider, .wider, .pinned], laidTests := true, laidLooks := .later }
def ProvidesNamesUptoCardSaid : Prop := Claim7.holds Tryz.pinned (.plain (OpenSpec.upto providesNamesSpec)) providesNamesUptoCard

/-- THE SECOND FORM's CARD OF 'chandlerlaw07.ProvidesNil'. -/
def providesNilUptoCard : Claim7 := { stood := { row := providesNilUptoRow, standIns := [], harness := (true, "74f247c8541814142e5a2741b9040d4443cc1ac6d4a5140536d59c27343b1506"), looks := true }, kinds := [], alts := [], laidByText := true, laidKinds := [.data, .wider, .wider, .pinned], laidTests := true, laidLooks := .later }
def ProvidesNilUptoCardSaid : Prop := Claim7.holds Tryz.pinned (.plain (OpenSpec.upto providesNilSpec)) providesNilUptoCard

/-- THE SECOND FORM's CARD OF 'chandlerlaw09.CacheNames'. -/
def cacheNamesUptoCard : Claim7 := { stood := { row := cacheNamesUptoRow, standIns := [], harness := (true, "74f247c8541814142e5a2741b9040d4443cc1ac6d4a5140536d59c27343b1506"), looks := true }, kinds := [], alts := [], laidByText := true, laidKinds := [.wider, .wider], laidTests := true, laidLooks := .later }
def CacheNamesUptoCardSaid : Prop := Claim7.holds Tryz.pinned (.plain (OpenSpec.upto cacheNamesSpec)) cacheNamesUptoCard

/-- THE SECOND FORM's CARD OF 'chandlerlaw09.CacheBack'. -/
def cacheBackUptoCard : Claim7 := { stood := { row := cacheBackUptoRow, standIns := [], harness := (true, "74f247c8541814142e5a2741b9040d4443cc1ac6d4a5140536d59c27343b1506"), looks := true }, kinds := [], alts := [], laidByText := true, laidKinds := [.wider, .wider], laidTests := true, laidLooks := .later }
def CacheBackUptoCardSaid : Prop := Claim7.holds Tryz.pinned (.plain (OpenSpec.upto cacheBackSpec)) cacheBackUptoCard

/-- THE SECOND FORM's CARD OF 'chandlerlaw09.CacheReads'. -/
def cacheReadsUptoCard : Claim7 := { stood := { row := cacheReadsUptoRow, standIns := [], harness := (true, "74f247c8541814142e5a2741b9040d4443cc1ac6d4a5140536d59c27343b1506"), looks := true }, kinds := [], alts := [], laidByText := true, laidKinds := [.wider, .wider], laidTests := true, laidLooks := .later }
def CacheReadsUptoCardSaid : Prop := Claim7.holds Tryz.pinned (.plain (OpenSpec.upto cacheReadsSpec)) cacheReadsUptoCard

/-- THE SECOND FORM's CARD OF 'chandlerlaw09.CacheSmall'. -/
def cacheSmallUptoCard : Claim7 := { stood := { row := cacheSmallUptoRow, standIns := [], harness := (true, "74f247c8541814142e5a2741b9040d4443cc1ac6d4a5140536d59c27343b1506"), looks := true }, kinds := [], alts := [], laidByText := true, laidKinds := [.wider, .wider], laidTests := true, laidLooks := .later }
def CacheSmallUptoCardSaid : Prop := Claim7.holds Tryz.pinned (.plain (OpenSpec.upto cacheSmallSpec)) cacheSmallUptoCard

/-- THE SECOND FORM's CARD OF 'chandlerlaw09.CacheOnce'. -/
def cacheOnceUptoCard : Claim7 := { stood := { row := cacheOnceUptoRow, standIns := [], harness := (true, "74f247c8541814142e5a2741b9040d4443cc1ac6d4a5140536d59c27343b1506"), looks := true }, kinds := [], alts := [], laidByText := true, laidKinds := [.wider, .wider], laidTests := true, laidLooks := .later }
def CacheOnceUptoCardSaid : Prop := Claim7.holds Tryz.pinned (.plain (OpenSpec.upto cacheOnceSpec)) cacheOnceUptoCard

/-- THE SECOND FORM's CARD OF 'chandlerlaw09.CacheNil'. -/
def cacheNilUptoCard : Claim7 := { stood := { row := cacheNilUptoRow, standIns := [], harness := (true, "74f247c8541814142e5a2741b9040d4443cc1ac6d4a5140536d59c27343b1506"), looks := true }, kinds := [], alts := [], laidByText := true, laidKinds := [.wider, .wider], laidTests := true, laidLooks := .later }
def CacheNilUptoCardSaid : Prop := Claim7.holds Tryz.pinned (.plain (OpenSpec.upto cacheNilSpec)) cacheNilUptoCard

/-- THE SECOND FORM's CARD OF 'chandlerlaw09.CacheApart'. -/
def cacheApartUptoCard : Claim7 := { stood := { row := cacheApartUptoRow, standIns := [], harness := (true, "74f247c8541814142e5a2741b9040d4443cc1ac6d4a5140536d59c27343b1506"), looks := true }, kinds := [], alts := [], laidByText := true, laidKinds := [.wider, .wider], laidTests := true, laidLooks := .later }
def CacheApartUptoCardSaid : Prop := Claim7.holds Tryz.pinned (.plain (OpenSpec.upto cacheApartSpec)) cacheApartUptoCard
end Rows
end Go.Proofs.YtpmfmkpfjomgnaaGreatDoor
