/-
  What the document fixes, as texts. Pure.
-/
import Derived.Test.YtkndjbmlkfpfoaaGreatDoorZSn0yToTR3
import Derived.Test.YtkndjbmlkfpfoaaGreatDoorZTT0

set_option linter.unusedSimpArgs false
set_option linter.unusedVariables false
namespace Go.Proofs.YtkndjbmlkfpfoaaGreatDoor
open Go Go.RowKit Go.Lib

def kt1 : ByteArray := ⟨#[105, 110, 115, 101, 114, 116, 32, 49, 32, 48, 32, 34, 104, 92, 117, 123, 101, 57, 125, 34, 10, 35, 32, 120, 10, 116, 105, 99, 107, 32, 50, 32, 45, 49, 10]⟩
def kt2 : ByteArray := ⟨#[10, 108, 101, 97, 118, 101, 10]⟩
def ks1 : Sp := ⟨1, 1, 0, 0, 0, 0, ⟨#[104, 195, 169]⟩, [], []⟩
def ks2 : Sp := ⟨6, 0, 0, 0, 0, 0, ⟨#[]⟩, [2, -1], []⟩
def ks3 : Sp := ⟨8, 0, 0, 0, 0, 7, ⟨#[]⟩, [], []⟩
def kc1 : Cpy := ⟨7, 1, 2, 4, true, [1]⟩
set_option maxRecDepth 100000
theorem kp_1 : prL (scL kt1) = .inl ([ks1, ks2], []) := by kernel_rfl
theorem kp_2 : prL (scL kt2) = .inr (2, 19) := by kernel_rfl
theorem kp_3 : stT ks1 ++ stT ks2 = [105, 110, 115, 101, 114, 116, 32, 49, 32, 48, 32, 34, 104, 195, 169, 34, 10, 116, 105, 99, 107, 32, 50, 32, 45, 49, 10] := by kernel_rfl
theorem kp_4 : stT ks3 ++ cpT kc1 = [100, 114, 111, 112, 32, 55, 10, 32, 32, 99, 111, 112, 121, 32, 55, 32, 102, 114, 111, 109, 32, 49, 32, 116, 111, 32, 50, 32, 115, 101, 110, 116, 32, 52, 32, 98, 97, 100, 32, 34, 92, 120, 48, 49, 34, 10] := by kernel_rfl
end Go.Proofs.YtkndjbmlkfpfoaaGreatDoor
