/-
  The library's contracts of cmp.Compare, laid at this program's numbers.
-/
import Derived.Shelf.SlicesG.Cmp
import Derived.Test.YtijjoikeceechaaGreatProg
import Derived.WalkKit
namespace Go.Proofs.YtijjoikeceechaaGreat
open Go.Shelf Go.RowKit

set_option maxRecDepth 100000

def shCmp_ren : Go.Shelf.Ren := ⟨fun | 5 => 118 | 7 => 120 | n => n, fun | 3 => 3 | 4 => 4 | 22 => 3 | n => n, fun n => n⟩
theorem shCmp : Go.Proofs.SlLaysC2.n5 Tryz.prog shCmp_ren := {
  mixed := by kernel_rfl
  f5 := ⟨Tryz.f118.name, by kernel_rfl, Tryz.func118.trans (congrArg some (by kernel_rfl))⟩
  f7 := ⟨Tryz.f120.name, by kernel_rfl, Tryz.func120.trans (congrArg some (by kernel_rfl))⟩
  t3 := Tryz.underlying3
  a3 := Tryz.isAgg3
  z3 := Tryz.sizeOf3
  v3 := Tryz.zeroValue3
  t4 := Tryz.underlying4
  a4 := Tryz.isAgg4
  z4 := Tryz.sizeOf4
  v4 := Tryz.zeroValue4
  t22 := Tryz.underlying3
  a22 := Tryz.isAgg3
  z22 := Tryz.sizeOf3
  v22 := Tryz.zeroValue3 }

end Go.Proofs.YtijjoikeceechaaGreat
