/-
  What chapter 4's 'known' answers: true.
-/
import Derived.Test.YtkndjbmlkfpfoaaGreatDoorZEsToRd

set_option linter.unusedSimpArgs false
set_option linter.unusedVariables false
namespace Go.Proofs.YtkndjbmlkfpfoaaGreatDoor
open Go.RowKit Go.Lib

theorem kn1 : uqT ⟨#[34, 92, 120, 52, 49, 92, 117, 123, 49, 102, 54, 48, 48, 125, 34]⟩ = ⟨#[65, 240, 159, 152, 128]⟩ := by kernel_rfl
theorem kn2 : uqN ⟨#[34, 92, 120, 52, 49, 92, 117, 123, 49, 102, 54, 48, 48, 125, 34]⟩ = 0 := by kernel_rfl
theorem kn3 : uqE ⟨#[34, 92, 120, 52, 49, 92, 117, 123, 49, 102, 54, 48, 48, 125, 34]⟩ = 0 := by kernel_rfl
theorem kn4 : uqT ⟨#[34, 92, 113, 34]⟩ = ⟨#[]⟩ := by kernel_rfl
theorem kn5 : uqN ⟨#[34, 92, 113, 34]⟩ = 1 := by kernel_rfl
theorem kn6 : uqE ⟨#[34, 92, 113, 34]⟩ = 18 := by kernel_rfl
theorem kn7 : qT ⟨#[97, 10, 255, 195, 169]⟩ = ⟨#[34, 97, 92, 110, 92, 120, 102, 102, 195, 169, 34]⟩ := by kernel_rfl

end Go.Proofs.YtkndjbmlkfpfoaaGreatDoor
