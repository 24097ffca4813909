/-
  The library's contracts of bytes.Clone, laid at this program's numbers.
-/
import Derived.Shelf.Bytes.SlClone
import Derived.Test.YtkkolefionbbcaaGreatProg
import Derived.WalkKit
namespace Go.Proofs.YtkkolefionbbcaaGreat
open Go.Shelf Go.RowKit

set_option maxRecDepth 100000

end Go.Proofs.YtkkolefionbbcaaGreat
