/-
  The library's contract of slices.Clone, laid at this program's numbers.
-/
import Derived.Shelf.SlicesE.Clone
import Derived.Test.YtjiphechhfifgaaProg
import Derived.WalkKit
namespace Go.Proofs.Ytjiphechhfifgaa
open Go.Shelf Go.RowKit

set_option maxRecDepth 100000

def shClone_ren : Go.Shelf.Ren := ⟨fun | 41 => 33 | n => n, fun | 4 => 4 | 22 => 31 | 23 => 56 | n => n, fun n => n⟩
theorem shClone : Go.Proofs.SlLaysE0.n41 Try.prog shClone_ren := {
  mixed := by kernel_rfl
  f41 := ⟨Try.f33.name, by kernel_rfl, Try.func33.trans (congrArg some (by kernel_rfl))⟩
  t4 := Try.underlying4
  a4 := Try.isAgg4
  z4 := Try.sizeOf4
  v4 := Try.zeroValue4
  t22 := Try.underlying31
  a22 := Try.isAgg31
  z22 := Try.sizeOf31
  v22 := Try.zeroValue31 }

end Go.Proofs.Ytjiphechhfifgaa
