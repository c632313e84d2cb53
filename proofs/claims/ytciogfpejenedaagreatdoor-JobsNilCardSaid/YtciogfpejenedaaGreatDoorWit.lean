/- A world in which Go's own table unicode/utf8.first lies, beside the tables that the program's text lays: the witness of these rows. -/
import Derived.Test.YtciogfpejenedaaGreatDoorRows
import Derived.LaidMore
namespace Go.Proofs.YtciogfpejenedaaGreatDoor
set_option linter.unusedSimpArgs false
set_option linter.unusedVariables false
noncomputable def witW (os : Os) : World :=
  { World.doorLaid Tryz.prog 39 os with heap := (World.doorLaid Tryz.prog 39 os).heap.setIfInBounds 5 (.cells (Go.Pinned.utf8FirstZ.map fun n : Nat => Value.int .u8 (n : Int)).toArray 183 (0, 0)) }
end Go.Proofs.YtciogfpejenedaaGreatDoor
