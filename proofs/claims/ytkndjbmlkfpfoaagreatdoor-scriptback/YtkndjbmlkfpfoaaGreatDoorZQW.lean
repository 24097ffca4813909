/-
  A region that draws its order, whose operations only read, and whose callees leave what was there.
-/
import Derived.Test.YtkndjbmlkfpfoaaGreatDoorZTOToTQ
import Derived.Deep.QuietTactic
import Derived.BigQuiet

set_option linter.unusedSimpArgs false
set_option linter.unusedVariables false
namespace Go.Proofs.YtkndjbmlkfpfoaaGreatDoor
open Go.RowKit Go.Lib

/-- a world in which all that was there is as it was -/
structure BelowOf (W0 : World) where
  w : World
  h : Below W0.heap.size W0 w

theorem BelowOf.ne (X : World) : Nonempty (BelowOf X) := ⟨⟨X, Below.refl _ _⟩⟩

end Go.Proofs.YtkndjbmlkfpfoaaGreatDoor
