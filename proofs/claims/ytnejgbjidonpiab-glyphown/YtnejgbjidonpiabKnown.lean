/-
  What the document fixes of chapter 1 (the law's known) comes out true.
-/
import Derived.Test.YtnejgbjidonpiabMend
import Derived.Test.YtnejgbjidonpiabCnt
import Derived.Test.YtnejgbjidonpiabCut
import Derived.KernelRfl
set_option linter.unusedSimpArgs false
set_option linter.unusedVariables false
namespace Go.Proofs.Ytnejgbjidonpiab
open Go.RowKit Go.Lib

theorem kn1 : dR ⟨#[97, 195, 169]⟩ 1 = 233 := by kernel_rfl
theorem kn2 : dN ⟨#[97, 195, 169]⟩ 1 = 2 := by kernel_rfl
theorem kn3 : dK ⟨#[97, 195, 169]⟩ 1 = true := by kernel_rfl
theorem kn4 : lR ⟨#[226, 130]⟩ 2 = 65533 := by kernel_rfl
theorem kn5 : lN ⟨#[226, 130]⟩ 2 = 1 := by kernel_rfl
theorem kn6 : lK ⟨#[226, 130]⟩ 2 = false := by kernel_rfl
theorem kn7 : cutL ⟨#[104, 195, 169, 121]⟩ 2 = ⟨#[104, 195, 169]⟩ := by kernel_rfl
theorem kn8 : cutR ⟨#[104, 195, 169, 121]⟩ 2 = ⟨#[121]⟩ := by kernel_rfl
theorem kn9 : Utf8.encode 55296 = ⟨#[239, 191, 189]⟩ := by kernel_rfl
theorem kn10 : firstBad ⟨#[97, 226, 130]⟩ (allL ⟨#[97, 226, 130]⟩) = 1 := by kernel_rfl
theorem kn11 : firstBad ⟨#[97, 195, 169]⟩ (allL ⟨#[97, 195, 169]⟩) = -1 := by kernel_rfl
theorem kn12 : (((allL ⟨#[195, 169, 255]⟩).length : Nat) : Int) = 2 := by kernel_rfl
theorem kn13 : runesBytes (runeL ⟨#[255]⟩) = ⟨#[239, 191, 189]⟩ := by kernel_rfl
theorem kn14 : runesBytes [97, -1, 119070] = ⟨#[97, 239, 191, 189, 240, 157, 132, 158]⟩ := by kernel_rfl
theorem kn15 : runeL ⟨#[97, 255]⟩ = [97, 65533] := by kernel_rfl

set_option maxRecDepth 100000 in
set_option maxHeartbeats 2000000 in
theorem known_in (w : World) : Calls Try.prog 6 #[] w fun e W' => e = .returned (.bool true) ∧ Below w.heap.size w W' := by
  go_enter Try.func6, Try.ntmps6
  go_wp2_with (first | (go_at_call 14; refine (decode_any _ _ _ (by decide)).mono ?_; rintro e w' ⟨rfl, rfl⟩; simp only [kn1, kn2, kn3]) | (go_at_call 15; refine (last_any _ _ _ (by decide)).mono ?_; rintro e w' ⟨rfl, rfl⟩; simp only [kn4, kn5, kn6]) | (go_at_call 13; refine (cut_in _ _ (by decide) (by decide) (by decide) _).mono ?_; rintro e w1 ⟨rfl, hB1⟩; simp only [kn7, kn8]))
  refine (encode_any _ _).mono ?_
  rintro e w' ⟨rfl, rfl⟩
  simp only [kn9]
  go_wp2_with fail
  refine (badAt_in _ (by decide) _).mono ?_
  rintro e w2 ⟨rfl, hB2⟩
  simp only [kn10]
  go_wp2_with fail
  refine (badAt_in _ (by decide) _).mono ?_
  rintro e w3 ⟨rfl, hB3⟩
  simp only [kn11]
  go_wp2_with fail
  refine (count_in _ (by decide) _).mono ?_
  rintro e w4 ⟨rfl, hB4⟩
  simp only [kn12]
  go_wp2_with fail
  refine (mend_in _ (by decide) _).mono ?_
  rintro e w5 ⟨rfl, hB5⟩
  simp only [kn13]
  go_wp2_with fail
  have hr1 : RS (w5.alloc (.cells #[.int .i32 97, .int .i32 (-1), .int .i32 119070] 21)) (.slice (some ⟨w5.heap.size, 0, none⟩) 3 3) [97, -1, 119070] := by
    refine .inr ⟨w5.heap.size, 0, 3, rfl, fun j hj => ?_⟩
    have : j = 0 ∨ j = 1 ∨ j = 2 := by simp at hj; omega
    rcases this with rfl | rfl | rfl <;> simp [go_sem]
  refine (text_in _ _ _ hr1).mono ?_
  rintro e w' ⟨rfl, rfl⟩
  simp only [kn14]
  go_wp2_with fail
  clear hr1
  refine (runes_in _ (by decide) _).mono ?_
  rintro e w6 ⟨v, rfl, ho, hB6, cap, hv⟩
  rw [kn15] at ho hv
  have h1 : RS w6 v [97, 65533] := RS.of_owns ho
  clear hv
  have hB : Below w.heap.size w w6 := (((((hB1.trans (hB2.mono hB1.size)).trans (hB3.mono (Nat.le_trans hB1.size hB2.size))).trans (hB4.mono (Nat.le_trans (Nat.le_trans hB1.size hB2.size) hB3.size))).trans (hB5.mono (Nat.le_trans (Nat.le_trans (Nat.le_trans hB1.size hB2.size) hB3.size) hB4.size))).alloc (Nat.le_trans (Nat.le_trans (Nat.le_trans (Nat.le_trans hB1.size hB2.size) hB3.size) hB4.size) hB5.size) _).trans (hB6.mono (by have := hB1.size; have := hB2.size; have := hB3.size; have := hB4.size; have := hB5.size; simp; omega))
  have hsz := hB.size
  clear hB1 hB2 hB3 hB4 hB5 hB6 ho
  go_wp2_with fail
  have h1' := h1.below ((Below.refl _ w6).alloc (Nat.le_refl _) (.cells #[.int .i32 97, .int .i32 65533] 21))
  have h2 : RS (w6.alloc (.cells #[.int .i32 97, .int .i32 65533] 21)) (.slice (some ⟨w6.heap.size, 0, none⟩) 2 2) [97, 65533] := by
    refine .inr ⟨w6.heap.size, 0, 2, rfl, fun j hj => ?_⟩
    have : j = 0 ∨ j = 1 := by simp at hj; omega
    rcases this with rfl | rfl <;> simp [go_sem]
  refine (same_in _ _ _ _ _ h1' h2 (by decide) (by decide)).mono ?_
  rintro e w7 ⟨rfl, nd, rfl⟩
  go_wp2
  go_ret
  exact ⟨rfl, (hB.alloc hsz _).trans ⟨rfl, rfl, rfl, Nat.le_refl _, fun _ _ => rfl⟩⟩

end Go.Proofs.Ytnejgbjidonpiab
