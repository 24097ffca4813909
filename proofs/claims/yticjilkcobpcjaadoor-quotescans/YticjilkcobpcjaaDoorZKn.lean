/-
  What chapter 4's 'known' answers: true.
-/
import Derived.Test.YticjilkcobpcjaaDoorZRd
set_option linter.unusedSimpArgs false
set_option linter.unusedVariables false
namespace Go.Proofs.YticjilkcobpcjaaDoor
open Go.RowKit Go.Lib

theorem kn1 : uqT ⟨#[34, 92, 120, 52, 49, 92, 117, 123, 49, 102, 54, 48, 48, 125, 34]⟩ = ⟨#[65, 240, 159, 152, 128]⟩ := by kernel_rfl
theorem kn2 : uqN ⟨#[34, 92, 120, 52, 49, 92, 117, 123, 49, 102, 54, 48, 48, 125, 34]⟩ = 0 := by kernel_rfl
theorem kn3 : uqE ⟨#[34, 92, 120, 52, 49, 92, 117, 123, 49, 102, 54, 48, 48, 125, 34]⟩ = 0 := by kernel_rfl
theorem kn4 : uqT ⟨#[34, 92, 113, 34]⟩ = ⟨#[]⟩ := by kernel_rfl
theorem kn5 : uqN ⟨#[34, 92, 113, 34]⟩ = 1 := by kernel_rfl
theorem kn6 : uqE ⟨#[34, 92, 113, 34]⟩ = 18 := by kernel_rfl
theorem kn7 : qT ⟨#[97, 10, 255, 195, 169]⟩ = ⟨#[34, 97, 92, 110, 92, 120, 102, 102, 195, 169, 34]⟩ := by kernel_rfl

set_option maxRecDepth 100000 in
set_option maxHeartbeats 1000000 in
theorem known_in (w : World) (hT : Tab w) : Calls Tryd.prog 6 #[] w fun e w' => e = .returned (.bool true) ∧ Below w.heap.size w w' := by
  have h1 := fun W => hide (unquote_in ⟨#[34, 92, 120, 52, 49, 92, 117, 123, 49, 102, 54, 48, 48, 125, 34]⟩ (by decide) W)
  have h2 := fun W => hide (unquote_in ⟨#[34, 92, 113, 34]⟩ (by decide) W)
  have h3 := fun W h => hide (quote_in ⟨#[97, 10, 255, 195, 169]⟩ (by decide) W h)
  rw [kn1, kn2, kn3] at h1
  rw [kn4, kn5, kn6] at h2
  rw [kn7] at h3
  go_enter Tryd.func6, Tryd.ntmps6
  go_wp2_with fail
  refine (unhide (h1 w)).mono ?_
  rintro e w1 ⟨rfl, b1⟩
  go_wp2_with fail
  refine (unhide (h2 w1)).mono ?_
  rintro e w2 ⟨rfl, b2⟩
  have b12 := b1.trans (b2.mono b1.size)
  go_wp2_with fail
  refine (unhide (h3 w2 (hT.below b12 hT.2))).mono ?_
  rintro e w3 ⟨rfl, b3⟩
  have b13 := b12.trans (b3.mono b12.size)
  go_wp2
  go_ret
  exact ⟨rfl, b13⟩

end Go.Proofs.YticjilkcobpcjaaDoor
