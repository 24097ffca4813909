/-
  What the document's own Quote answers: the same text in quotes.
-/
import Derived.Test.YtkndjbmlkfpfoaaGreatDoorZHx
import Derived.Test.YtkndjbmlkfpfoaaGreatDoorZDecToDec4
import Derived.Deep.QuietTactic
import Derived.BigQuiet
import Derived.Test.YtkndjbmlkfpfoaaGreatDoorZPureWToPU
import Derived.Lib.AppendStr
import Derived.OwnWalk
import Derived.Maps.AppendAt
import Derived.Laws.EntriesVeiled
import Derived.Test.YtkndjbmlkfpfoaaGreatDoorZRegToRegV

set_option linter.unusedSimpArgs false
set_option linter.unusedVariables false
namespace Go.Proofs.YtkndjbmlkfpfoaaGreatDoor
open Go.RowKit Go.Lib

theorem infoByte : (Tryz.prog.info? 5).map (fun i => (i.zero, i.size, i.bytes)) = some (some (.int .u8 0), 1, 1) := by kernel_rfl
end Go.Proofs.YtkndjbmlkfpfoaaGreatDoor
