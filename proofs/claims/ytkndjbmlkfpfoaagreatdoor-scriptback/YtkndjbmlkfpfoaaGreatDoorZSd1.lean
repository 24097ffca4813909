/-
  The document's own number.
-/
import Derived.Test.YtkndjbmlkfpfoaaGreatDoorZNu
import Derived.Test.YtkndjbmlkfpfoaaGreatDoorZPKToSw
import Derived.Test.YtkndjbmlkfpfoaaGreatDoorZSp
import Derived.Deep.CutRange
import Derived.WalkMore

set_option linter.unusedSimpArgs false
set_option linter.unusedVariables false
namespace Go.Proofs.YtkndjbmlkfpfoaaGreatDoor
open Go.RowKit Go.Lib

def NmA (t : ByteArray) (e : Ending) : Prop := ∃ (n : Int) (b : Bool), e = .returned (.tuple #[.int .i64 n, .bool b]) ∧ numD t.data.toList = if b = true then some n else none
theorem NmA.no (t : ByteArray) (n : Int) (h : numD t.data.toList = none) : NmA t (.returned (.tuple #[.int .i64 n, .bool false])) := ⟨n, false, rfl, h⟩
end Go.Proofs.YtkndjbmlkfpfoaaGreatDoor
