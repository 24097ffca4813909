/-
  The library's contracts of bytes.Clone, laid at this program's numbers.
-/
import Derived.Shelf.Bytes.SlClone
import Derived.Test.YtkffonoifbaifaaGreatProg
import Derived.WalkKit
namespace Go.Proofs.YtkffonoifbaifaaGreat
open Go.Shelf Go.RowKit

set_option maxRecDepth 100000

def shBytes_ren : Go.Shelf.Ren := ⟨fun | 4 => 31 | n => n, fun | 4 => 4 | 5 => 5 | 22 => 22 | n => n, fun n => n⟩
theorem shBytes : Go.Proofs.SlLaysK.n4 Tryz.prog shBytes_ren := {
  mixed := by kernel_rfl
  f4 := Tryz.func31.trans (congrArg some (by kernel_rfl))
  t4 := Tryz.underlying4
  a4 := Tryz.isAgg4
  z4 := Tryz.sizeOf4
  v4 := Tryz.zeroValue4
  t22 := Tryz.underlying22
  a22 := Tryz.isAgg22
  z22 := Tryz.sizeOf22
  v22 := Tryz.zeroValue22
  t5 := Tryz.underlying5
  i5 := by kernel_rfl }

end Go.Proofs.YtkffonoifbaifaaGreat
