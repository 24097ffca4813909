/-
  The library's contracts of bytes.Clone, laid at this program's numbers.
-/
import Derived.Shelf.Bytes.SlClone
import Derived.Test.YtkpedifmbckgiaaGreatProg
import Derived.WalkKit
namespace Go.Proofs.YtkpedifmbckgiaaGreat
open Go.Shelf Go.RowKit

set_option maxRecDepth 100000

end Go.Proofs.YtkpedifmbckgiaaGreat
