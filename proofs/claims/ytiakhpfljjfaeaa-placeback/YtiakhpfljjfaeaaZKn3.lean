/-
  The law's own known answers true.
-/
import Derived.Test.YtiakhpfljjfaeaaZPlW
import Derived.Test.YtiakhpfljjfaeaaZPlT
import Derived.Test.YtiakhpfljjfaeaaZPlC
import Derived.KernelRfl
set_option linter.unusedSimpArgs false
set_option linter.unusedVariables false
namespace Go.Proofs.Ytiakhpfljjfaeaa
open Go.RowKit Go.Lib

def knT : ByteArray := ⟨#[97, 110, 204, 131, 13, 10, 240, 157, 132, 158, 255]⟩
theorem knBr : brL knT = [0, 1, 4, 6, 10, 11] := by kernel_rfl
theorem knN : pN knT = 7 := by kernel_rfl
theorem knL : pL knT 7 = 2 := by kernel_rfl
theorem knA1 : atV knT 3 7 = .tuple #[.agg #[.int .i64 10, .int .i64 6, .int .i64 7, .int .i64 4, .int .i64 2, .int .i64 2], .int .i64 0] := by kernel_rfl
theorem knA2 : atV knT 3 6 = .tuple #[.agg #[.int .i64 0, .int .i64 0, .int .i64 0, .int .i64 0, .int .i64 0, .int .i64 0], .int .i64 4] := by kernel_rfl
theorem knC : cellV knT 1 4 = .tuple #[.agg #[.int .i64 4, .int .i64 3, .int .i64 3, .int .i64 2, .int .i64 1, .int .i64 4], .int .i64 0] := by kernel_rfl
theorem knS : knT.size ≤ 1000000 := by decide

set_option maxRecDepth 100000 in
set_option maxHeartbeats 4000000 in
theorem known_in (w : World) : Calls Try.prog 7 #[] w fun e W' => e = .returned (.bool true) ∧ Below w.heap.size w W' := by
  have hnew := fun w => hide (new_in knT knS w)
  have hA1 := fun p w hm => hide (at_in knT p 3 7 w knS hm)
  have hA2 := fun p w hm => hide (at_in knT p 3 6 w knS hm)
  have hC := fun p w hm => hide (cell_in knT p 1 4 w knS hm)
  have hL := fun p w hm => hide (lines_in knT p w knS hm)
  rw [knA1] at hA1
  rw [knA2] at hA2
  rw [knC] at hC
  rw [knN, knL] at hL
  go_enter Try.func7, Try.ntmps7
  go_wp2_with fail
  refine (unhide (hnew _)).mono ?_
  rintro e W0 ⟨p, rfl, hm, b0⟩
  go_wp2_with fail
  refine (unhide (hA1 _ _ hm)).mono ?_
  rintro e W1 ⟨rfl, h1⟩
  have b1 := bnext b0 h1
  have k1 := Box6.new W1 (.int .i64 10) (.int .i64 6) (.int .i64 7) (.int .i64 4) (.int .i64 2) (.int .i64 2)
  have h1a := (Below.refl _ W1).alloc (Nat.le_refl _) (.cells #[.int .i64 10, .int .i64 6, .int .i64 7, .int .i64 4, .int .i64 2, .int .i64 2] 29)
  replace b1 := bnext b1 h1a
  have m1 := (hm.below h1).below h1a
  go_wp2_with fail
  generalize W1.heap.size = x1 at k1 ⊢
  generalize W1.alloc (.cells #[.int .i64 10, .int .i64 6, .int .i64 7, .int .i64 4, .int .i64 2, .int .i64 2] 29) = X1 at k1 b1 m1 ⊢
  refine (unhide (hA2 _ _ m1)).mono ?_
  rintro e W2 ⟨rfl, h2⟩
  have h2a := (Below.refl _ W2).alloc (Nat.le_refl _) (.cells #[.int .i64 0, .int .i64 0, .int .i64 0, .int .i64 0, .int .i64 0, .int .i64 0] 29)
  have b2 := bnext (bnext b1 h2) h2a
  have m2 := (m1.below h2).below h2a
  replace k1 := (k1.below h2).below h2a
  go_wp2_with fail
  generalize W2.alloc (.cells #[.int .i64 0, .int .i64 0, .int .i64 0, .int .i64 0, .int .i64 0, .int .i64 0] 29) = X2 at k1 b2 m2 ⊢
  refine (unhide (hC _ _ m2)).mono ?_
  rintro e W3 ⟨rfl, h3⟩
  have k3 := Box6.new W3 (.int .i64 4) (.int .i64 3) (.int .i64 3) (.int .i64 2) (.int .i64 1) (.int .i64 4)
  have h3a := (Below.refl _ W3).alloc (Nat.le_refl _) (.cells #[.int .i64 4, .int .i64 3, .int .i64 3, .int .i64 2, .int .i64 1, .int .i64 4] 29)
  have b3 := bnext (bnext b2 h3) h3a
  have m3 := (m2.below h3).below h3a
  replace k1 := (k1.below h3).below h3a
  obtain ⟨X3, hX3⟩ : ∃ X3, W3.alloc (.cells #[.int .i64 4, .int .i64 3, .int .i64 3, .int .i64 2, .int .i64 1, .int .i64 4] 29) = X3 := ⟨_, rfl⟩
  rw [hX3] at k1 k3 b3 m3
  obtain ⟨p0, p1, p2, p3, p4, p5, _⟩ := k1.facts
  obtain ⟨q0, q1, q2, q3, q4, q5, _⟩ := k3.facts
  have hLL := hide (unhide (hL _ _ m3))
  clear k1 k3 m1 m2 m3 hm b0 b1 b2 h1 h2 h3 h1a h2a h3a hL hC hA1 hA2 hnew
  go_wp2_with (go_at_call 16; refine (unhide hLL).mono ?_; rintro e W4 ⟨rfl, h4⟩)
  go_ret
  exact ⟨rfl, bnext b3 h4⟩

end Go.Proofs.Ytiakhpfljjfaeaa
