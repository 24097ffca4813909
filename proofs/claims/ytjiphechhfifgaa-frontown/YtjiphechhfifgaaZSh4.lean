/-
  The library's contract of slices.DeleteFunc, laid at this program's numbers.
-/
import Derived.Shelf.SlicesE.DeleteFunc
import Derived.Test.YtjiphechhfifgaaProg
import Derived.WalkKit
namespace Go.Proofs.Ytjiphechhfifgaa
open Go.Shelf Go.RowKit

set_option maxRecDepth 100000

def shDel_ren : Go.Shelf.Ren := ⟨fun | 6 => 60 | 10 => 53 | n => n, fun | 0 => 0 | 3 => 3 | 4 => 4 | 22 => 32 | 23 => 3 | 25 => 79 | n => n, fun n => n⟩
theorem shDel : Go.Proofs.SlLaysH.n10 Try.prog shDel_ren := {
  mixed := by kernel_rfl
  f6 := ⟨Try.f60.name, by kernel_rfl, Try.func60.trans (congrArg some (by kernel_rfl))⟩
  f10 := ⟨Try.f53.name, by kernel_rfl, Try.func53.trans (congrArg some (by kernel_rfl))⟩
  t0 := Try.underlying0
  a0 := Try.isAgg0
  z0 := Try.sizeOf0
  v0 := Try.zeroValue0
  t3 := Try.underlying3
  a3 := Try.isAgg3
  z3 := Try.sizeOf3
  v3 := Try.zeroValue3
  t4 := Try.underlying4
  a4 := Try.isAgg4
  z4 := Try.sizeOf4
  v4 := Try.zeroValue4
  t22 := Try.underlying32
  a22 := Try.isAgg32
  z22 := Try.sizeOf32
  v22 := Try.zeroValue32
  a23 := Try.isAgg3
  z23 := Try.sizeOf3
  t25 := Try.underlying79
  a25 := Try.isAgg79
  z25 := Try.sizeOf79
  v25 := Try.zeroValue79 }

end Go.Proofs.Ytjiphechhfifgaa
