/-
  The library's contract of slices.Compact, laid at this program's numbers.
-/
import Derived.Shelf.Slices.CompactI
import Derived.Test.YtmglnaldpcmakaaProg
import Derived.WalkKit
namespace Go.Proofs.Ytmglnaldpcmakaa
open Go.Shelf Go.RowKit

set_option maxRecDepth 100000

def shCompact_ren : Go.Shelf.Ren := ⟨fun | 20 => 22 | n => n, fun | 0 => 0 | 3 => 3 | 4 => 4 | 22 => 23 | n => n, fun n => n⟩
theorem shCompact : Go.Proofs.Lays2.n20 Try.prog shCompact_ren := {
  mixed := by kernel_rfl
  f20 := Try.func22.trans (congrArg some (by kernel_rfl))
  t0 := Try.underlying0
  a0 := Try.isAgg0
  z0 := Try.sizeOf0
  v0 := Try.zeroValue0
  t3 := Try.underlying3
  a3 := Try.isAgg3
  z3 := Try.sizeOf3
  v3 := Try.zeroValue3
  t4 := Try.underlying4
  a4 := Try.isAgg4
  z4 := Try.sizeOf4
  v4 := Try.zeroValue4
  t22 := Try.underlying23
  a22 := Try.isAgg23
  z22 := Try.sizeOf23
  v22 := Try.zeroValue23
  i3 := by kernel_rfl }

end Go.Proofs.Ytmglnaldpcmakaa
