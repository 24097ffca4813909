/-
  What the law's own known answers: true.
-/
import Derived.Test.YtcagfapdhopmjaaCCnt
import Derived.Test.YtcagfapdhopmjaaPrv
import Derived.Test.YtcagfapdhopmjaaRUs
import Derived.KernelRfl
set_option linter.unusedSimpArgs false
set_option linter.unusedVariables false
namespace Go.Proofs.Ytcagfapdhopmjaa
open Go.RowKit Go.Lib

theorem k1 : cls 97 = 0 := by kernel_rfl
theorem k2 : cls 13 = 1 := by kernel_rfl
theorem k3 : cls 769 = 5 := by kernel_rfl
theorem kbr : brL ⟨#[101, 204, 129, 120]⟩ = [0, 3, 4] := by kernel_rfl
theorem k4 : (cpL ⟨#[101, 204, 129, 120]⟩).length = 2 := by rw [cpL_length, kbr]; rfl
theorem k5 : isBr ⟨#[101, 204, 129, 120]⟩ 3 = true := by unfold isBr; rw [kbr]; rfl
theorem k6 : isBr ⟨#[101, 204, 129, 120]⟩ 1 = false := by unfold isBr; rw [kbr]; rfl
theorem k7 : nxt (brL ⟨#[101, 204, 129, 120]⟩) 0 (ByteArray.size ⟨#[101, 204, 129, 120]⟩) = 3 := by rw [kbr]; rfl
theorem k8 : prv (brL ⟨#[101, 204, 129, 120]⟩) 4 = 3 := by rw [kbr]; rfl
theorem k9 : ByteArray.size ⟨#[101, 204, 129, 120]⟩ ≤ 140737488355328 := by decide

set_option maxRecDepth 100000 in
set_option maxHeartbeats 4000000 in
theorem known_in (w : World) : Calls Try.prog 9 #[] w fun e W' => e = .returned (.bool true) ∧ Below w.heap.size w W' := by
  go_enter Try.func9, Try.ntmps9
  go_wp2_with fail
  refine (class_in 97 (by decide) (by decide) _).mono ?_
  rintro e w1 ⟨rfl, b1⟩
  rw [k1]
  go_wp2_with fail
  refine (class_in 13 (by decide) (by decide) _).mono ?_
  rintro e w2 ⟨rfl, b2⟩
  rw [k2]
  go_wp2_with fail
  refine (class_in 769 (by decide) (by decide) _).mono ?_
  rintro e w3 ⟨rfl, b3⟩
  rw [k3]
  go_wp2_with fail
  refine (clumpCount_in _ k9 (by rw [k4]; decide) _).mono ?_
  rintro e w4 ⟨rfl, b4⟩
  rw [k4]
  go_wp2_with fail
  refine (break_in _ 3 k9 _).mono ?_
  rintro e w5 ⟨rfl, b5⟩
  rw [k5]
  go_wp2_with fail
  refine (break_in _ 1 k9 _).mono ?_
  rintro e w6 ⟨rfl, b6⟩
  rw [k6]
  go_wp2_with fail
  refine (next_in _ 0 k9 (by decide) _).mono ?_
  rintro e w7 ⟨rfl, b7⟩
  rw [k7]
  go_wp2_with fail
  refine (prev_in _ 4 k9 _).mono ?_
  rintro e w8 ⟨rfl, b8⟩
  rw [k8]
  go_wp2
  go_ret
  refine ⟨rfl, ?_⟩
  have c2 := b1.trans (b2.mono b1.size)
  have c3 := c2.trans (b3.mono c2.size)
  have c4 := c3.trans (b4.mono c3.size)
  have c5 := c4.trans (b5.mono c4.size)
  have c6 := c5.trans (b6.mono c5.size)
  have c7 := c6.trans (b7.mono c6.size)
  exact c7.trans (b8.mono c7.size)

end Go.Proofs.Ytcagfapdhopmjaa
