/-
  The library's contract of strings.Clone, laid at this program's numbers.
-/
import Derived.Shelf.Pu.Clone
import Derived.Test.YtehmbbnmjiojgaaProg
import Derived.WalkKit
namespace Go.Proofs.Ytehmbbnmjiojgaa
open Go.Shelf Go.RowKit

set_option maxRecDepth 100000

def shClone_ren : Go.Shelf.Ren := ⟨fun | 25 => 44 | n => n, fun | 0 => 0 | 3 => 3 | 4 => 4 | 5 => 5 | 9 => 9 | 37 => 96 | 47 => 97 | n => n, fun n => n⟩
theorem shClone : Go.Proofs.LaysPu.n25 Try.prog shClone_ren := {
  mixed := by kernel_rfl
  f25 := Try.func44.trans (congrArg some (by kernel_rfl))
  t0 := Try.underlying0
  a0 := Try.isAgg0
  z0 := Try.sizeOf0
  v0 := Try.zeroValue0
  i0 := by kernel_rfl
  t3 := Try.underlying3
  a3 := Try.isAgg3
  z3 := Try.sizeOf3
  v3 := Try.zeroValue3
  i3 := by kernel_rfl
  t4 := Try.underlying4
  a4 := Try.isAgg4
  z4 := Try.sizeOf4
  v4 := Try.zeroValue4
  i4 := by kernel_rfl
  t5 := Try.underlying5
  a5 := Try.isAgg5
  z5 := Try.sizeOf5
  v5 := Try.zeroValue5
  i5 := by kernel_rfl
  t9 := Try.underlying9
  a9 := Try.isAgg9
  z9 := Try.sizeOf9
  v9 := Try.zeroValue9
  i9 := by kernel_rfl
  t37 := Try.underlying96
  a37 := Try.isAgg96
  z37 := Try.sizeOf96
  v37 := Try.zeroValue96
  i37 := by kernel_rfl
  t47 := Try.underlying97
  a47 := Try.isAgg97
  z47 := Try.sizeOf97
  v47 := Try.zeroValue97
  i47 := by kernel_rfl }
set_option maxHeartbeats 1000000 in
theorem sclone_in (s : ByteArray) (w : World) (h : s.size ≤ 281474976710656) : Calls Try.prog 35 #[.string s] w fun e W => e = .returned (.string s) ∧ Below w.heap.size w W := by
  have H : Hid (∀ W : World, Calls Try.prog 44 #[.string s] W fun e W' => e = .returned (.string s) ∧ Below W.heap.size W W') := fun W => AnyPu.stringslite_Clone shClone s W h
  go_enter Try.func35, Try.ntmps35
  go_wp2_with fail
  refine (H.out _).mono ?_
  rintro r W1 ⟨rfl, hb⟩
  go_wp2
  go_ret
  exact ⟨rfl, hb⟩

end Go.Proofs.Ytehmbbnmjiojgaa
