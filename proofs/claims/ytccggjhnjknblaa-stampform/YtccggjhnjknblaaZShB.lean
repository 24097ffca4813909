/-
  The library's contracts of slices.ContainsFunc, slices.Clone and bytes.Clone, laid at this program's numbers.
-/
import Derived.Shelf.SlicesQ.IndexFunc
import Derived.Shelf.SlicesE.Clone
import Derived.Shelf.Bytes.SlClone
import Derived.Test.YtccggjhnjknblaaProg
import Derived.WalkKit
namespace Go.Proofs.Ytccggjhnjknblaa
open Go.Shelf Go.RowKit

set_option maxRecDepth 100000

def shHas_ren : Go.Shelf.Ren := ⟨fun | 6 => 47 | 8 => 34 | n => n, fun | 0 => 0 | 3 => 3 | 4 => 4 | 22 => 22 | 23 => 32 | 25 => 64 | n => n, fun n => n⟩
theorem shHas : Go.Proofs.SlLaysH0.n8 Try.prog shHas_ren := {
  mixed := by kernel_rfl
  f6 := ⟨Try.f47.name, by kernel_rfl, Try.func47.trans (congrArg some (by kernel_rfl))⟩
  f8 := ⟨Try.f34.name, by kernel_rfl, Try.func34.trans (congrArg some (by kernel_rfl))⟩
  t0 := Try.underlying0
  a0 := Try.isAgg0
  z0 := Try.sizeOf0
  v0 := Try.zeroValue0
  t3 := Try.underlying3
  a3 := Try.isAgg3
  z3 := Try.sizeOf3
  v3 := Try.zeroValue3
  t4 := Try.underlying4
  a4 := Try.isAgg4
  z4 := Try.sizeOf4
  v4 := Try.zeroValue4
  t22 := Try.underlying22
  a22 := Try.isAgg22
  z22 := Try.sizeOf22
  v22 := Try.zeroValue22
  t25 := Try.underlying64
  a25 := Try.isAgg64
  z25 := Try.sizeOf64
  v25 := Try.zeroValue64 }

def shClone_ren : Go.Shelf.Ren := ⟨fun | 41 => 28 | n => n, fun | 4 => 4 | 22 => 22 | 23 => 32 | n => n, fun n => n⟩
theorem shClone : Go.Proofs.SlLaysE0.n41 Try.prog shClone_ren := {
  mixed := by kernel_rfl
  f41 := ⟨Try.f28.name, by kernel_rfl, Try.func28.trans (congrArg some (by kernel_rfl))⟩
  t4 := Try.underlying4
  a4 := Try.isAgg4
  z4 := Try.sizeOf4
  v4 := Try.zeroValue4
  t22 := Try.underlying22
  a22 := Try.isAgg22
  z22 := Try.sizeOf22
  v22 := Try.zeroValue22 }

def shBytes_ren : Go.Shelf.Ren := ⟨fun | 4 => 39 | n => n, fun | 4 => 4 | 5 => 5 | 22 => 45 | n => n, fun n => n⟩
theorem shBytes : Go.Proofs.SlLaysK.n4 Try.prog shBytes_ren := {
  mixed := by kernel_rfl
  f4 := Try.func39.trans (congrArg some (by kernel_rfl))
  t4 := Try.underlying4
  a4 := Try.isAgg4
  z4 := Try.sizeOf4
  v4 := Try.zeroValue4
  t22 := Try.underlying45
  a22 := Try.isAgg45
  z22 := Try.sizeOf45
  v22 := Try.zeroValue45
  t5 := Try.underlying5
  i5 := by kernel_rfl }

end Go.Proofs.Ytccggjhnjknblaa
