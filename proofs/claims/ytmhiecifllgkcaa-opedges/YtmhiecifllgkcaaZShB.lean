/-
  The library's contracts of bytes.Clone, laid at this program's numbers.
-/
import Derived.Shelf.Bytes.SlClone
import Derived.Test.YtmhiecifllgkcaaProg
import Derived.WalkKit
namespace Go.Proofs.Ytmhiecifllgkcaa
open Go.Shelf Go.RowKit

set_option maxRecDepth 100000

def shBytes_ren : Go.Shelf.Ren := ⟨fun | 4 => 31 | n => n, fun | 4 => 4 | 5 => 5 | 22 => 45 | n => n, fun n => n⟩
theorem shBytes : Go.Proofs.SlLaysK.n4 Try.prog shBytes_ren := {
  mixed := by kernel_rfl
  f4 := Try.func31.trans (congrArg some (by kernel_rfl))
  t4 := Try.underlying4
  a4 := Try.isAgg4
  z4 := Try.sizeOf4
  v4 := Try.zeroValue4
  t22 := Try.underlying45
  a22 := Try.isAgg45
  z22 := Try.sizeOf45
  v22 := Try.zeroValue45
  t5 := Try.underlying5
  i5 := by kernel_rfl }

end Go.Proofs.Ytmhiecifllgkcaa
