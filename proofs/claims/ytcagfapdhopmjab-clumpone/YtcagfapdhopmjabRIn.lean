/-
  What the texts behind this one import.
-/
import Derived.Test.YtcagfapdhopmjabPC
import Derived.Test.YtcagfapdhopmjabDec
import Derived.Laws.Cover4
import Derived.Deep.QuietTactic
import Derived.BigQuiet
import Derived.Below
import Derived.Maps.AppendAt
set_option linter.unusedSimpArgs false
set_option linter.unusedVariables false
namespace Go.Proofs.Ytcagfapdhopmjab
open Go.RowKit Go.Lib

end Go.Proofs.Ytcagfapdhopmjab
