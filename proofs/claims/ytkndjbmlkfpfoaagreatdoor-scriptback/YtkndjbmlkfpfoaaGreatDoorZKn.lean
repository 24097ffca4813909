/-
  What chapter 4's 'known' answers: true.
-/
import Derived.Test.YtkndjbmlkfpfoaaGreatDoorZEsToRd

set_option linter.unusedSimpArgs false
set_option linter.unusedVariables false
namespace Go.Proofs.YtkndjbmlkfpfoaaGreatDoor
open Go.RowKit Go.Lib

theorem kn1 : uqT ⟨#[34, 92, 120, 52, 49, 92, 117, 123, 49, 102, 54, 48, 48, 125, 34]⟩ = ⟨#[65, 240, 159, 152, 128]⟩ := by kernel_rfl
end Go.Proofs.YtkndjbmlkfpfoaaGreatDoor
