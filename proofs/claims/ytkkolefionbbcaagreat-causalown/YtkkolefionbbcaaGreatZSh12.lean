/-
  The library's contract of strings.Clone, laid at this program's numbers.
-/
import Derived.Shelf.Pu.Clone
import Derived.Test.YtkkolefionbbcaaGreatProg
import Derived.WalkKit
namespace Go.Proofs.YtkkolefionbbcaaGreat
open Go.Shelf Go.RowKit

set_option maxRecDepth 100000

def shClone_ren : Go.Shelf.Ren := ⟨fun | 25 => 86 | n => n, fun | 0 => 0 | 3 => 3 | 4 => 4 | 5 => 5 | 9 => 9 | 37 => 148 | 47 => 149 | n => n, fun n => n⟩
theorem shClone : Go.Proofs.LaysPu.n25 Tryz.prog shClone_ren := {
  mixed := by kernel_rfl
  f25 := Tryz.func86.trans (congrArg some (by kernel_rfl))
  t0 := Tryz.underlying0
  a0 := Tryz.isAgg0
  z0 := Tryz.sizeOf0
  v0 := Tryz.zeroValue0
  i0 := by kernel_rfl
  t3 := Tryz.underlying3
  a3 := Tryz.isAgg3
  z3 := Tryz.sizeOf3
  v3 := Tryz.zeroValue3
  i3 := by kernel_rfl
  t4 := Tryz.underlying4
  a4 := Tryz.isAgg4
  z4 := Tryz.sizeOf4
  v4 := Tryz.zeroValue4
  i4 := by kernel_rfl
  t5 := Tryz.underlying5
  a5 := Tryz.isAgg5
  z5 := Tryz.sizeOf5
  v5 := Tryz.zeroValue5
  i5 := by kernel_rfl
  t9 := Tryz.underlying9
  a9 := Tryz.isAgg9
  z9 := Tryz.sizeOf9
  v9 := Tryz.zeroValue9
  i9 := by kernel_rfl
  t37 := Tryz.underlying148
  a37 := Tryz.isAgg148
  z37 := Tryz.sizeOf148
  v37 := Tryz.zeroValue148
  i37 := by kernel_rfl
  t47 := Tryz.underlying149
  a47 := Tryz.isAgg149
  z47 := Tryz.sizeOf149
  v47 := Tryz.zeroValue149
  i47 := by kernel_rfl }
set_option maxHeartbeats 1000000 in
theorem sclone_in (s : ByteArray) (w : World) (h : s.size ≤ 281474976710656) : Calls Tryz.prog 69 #[.string s] w fun e W => e = .returned (.string s) ∧ Below w.heap.size w W := by
  have H : Hid (∀ W : World, Calls Tryz.prog 86 #[.string s] W fun e W' => e = .returned (.string s) ∧ Below W.heap.size W W') := fun W => AnyPu.stringslite_Clone shClone s W h
  go_enter Tryz.func69, Tryz.ntmps69
  go_wp2_with fail
  refine (H.out _).mono ?_
  rintro r W1 ⟨rfl, hb⟩
  go_wp2
  go_ret
  exact ⟨rfl, hb⟩

end Go.Proofs.YtkkolefionbbcaaGreat
