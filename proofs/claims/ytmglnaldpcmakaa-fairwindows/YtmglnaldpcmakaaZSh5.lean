/-
  The library's contract of slices.BinarySearch, laid at this program's numbers.
-/
import Derived.Shelf.Slices.SearchI
import Derived.Test.YtmglnaldpcmakaaProg
import Derived.WalkKit
namespace Go.Proofs.Ytmglnaldpcmakaa
open Go.Shelf Go.RowKit

set_option maxRecDepth 100000

def shSearch_ren : Go.Shelf.Ren := ⟨fun | 25 => 37 | 31 => 45 | 32 => 46 | 37 => 40 | n => n, fun | 0 => 0 | 3 => 3 | 4 => 4 | 22 => 23 | 40 => 64 | n => n, fun n => n⟩
theorem shSearch : Go.Proofs.Lays2.n25 Try.prog shSearch_ren := {
  mixed := by kernel_rfl
  f25 := Try.func37.trans (congrArg some (by kernel_rfl))
  f31 := Try.func45.trans (congrArg some (by kernel_rfl))
  f32 := Try.func46.trans (congrArg some (by kernel_rfl))
  f37 := Try.func40.trans (congrArg some (by kernel_rfl))
  t0 := Try.underlying0
  a0 := Try.isAgg0
  z0 := Try.sizeOf0
  v0 := Try.zeroValue0
  t3 := Try.underlying3
  a3 := Try.isAgg3
  z3 := Try.sizeOf3
  v3 := Try.zeroValue3
  t4 := Try.underlying4
  a4 := Try.isAgg4
  z4 := Try.sizeOf4
  v4 := Try.zeroValue4
  t22 := Try.underlying23
  a22 := Try.isAgg23
  z22 := Try.sizeOf23
  v22 := Try.zeroValue23
  t40 := Try.underlying64
  a40 := Try.isAgg64
  z40 := Try.sizeOf64
  v40 := Try.zeroValue64 }

end Go.Proofs.Ytmglnaldpcmakaa
