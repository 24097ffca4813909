/-
  The library's contracts of bytes.Clone, laid at this program's numbers.
-/
import Derived.Shelf.Bytes.SlClone
import Derived.Test.YtehmbbnmjiojgaaProg
import Derived.WalkKit
namespace Go.Proofs.Ytehmbbnmjiojgaa
open Go.Shelf Go.RowKit

set_option maxRecDepth 100000

end Go.Proofs.Ytehmbbnmjiojgaa
