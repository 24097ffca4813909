/-
  The library's contracts of cmp.Compare, laid at this program's numbers.
-/
import Derived.Shelf.SlicesG.Cmp
import Derived.Test.YtehmbbnmjiojgaaProg
import Derived.WalkKit
namespace Go.Proofs.Ytehmbbnmjiojgaa
open Go.Shelf Go.RowKit

set_option maxRecDepth 100000

def shCmp_ren : Go.Shelf.Ren := ⟨fun | 5 => 82 | 7 => 84 | n => n, fun | 3 => 3 | 4 => 4 | 22 => 3 | n => n, fun n => n⟩
theorem shCmp : Go.Proofs.SlLaysC2.n5 Try.prog shCmp_ren := {
  mixed := by kernel_rfl
  f5 := ⟨Try.f82.name, by kernel_rfl, Try.func82.trans (congrArg some (by kernel_rfl))⟩
  f7 := ⟨Try.f84.name, by kernel_rfl, Try.func84.trans (congrArg some (by kernel_rfl))⟩
  t3 := Try.underlying3
  a3 := Try.isAgg3
  z3 := Try.sizeOf3
  v3 := Try.zeroValue3
  t4 := Try.underlying4
  a4 := Try.isAgg4
  z4 := Try.sizeOf4
  v4 := Try.zeroValue4
  t22 := Try.underlying3
  a22 := Try.isAgg3
  z22 := Try.sizeOf3
  v22 := Try.zeroValue3 }

end Go.Proofs.Ytehmbbnmjiojgaa
