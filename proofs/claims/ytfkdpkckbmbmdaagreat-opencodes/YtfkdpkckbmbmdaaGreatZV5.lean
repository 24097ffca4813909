/-
  Has, Add.
-/
import Derived.Test.YtfkdpkckbmbmdaaGreatZV4
set_option linter.unusedSimpArgs false
set_option linter.unusedVariables false
namespace Go.Proofs.YtfkdpkckbmbmdaaGreat
open Go.RowKit Go.Lib

theorem addV_ways (l : List (Int × Int)) (x0 x1 : Int) : (isT x0 = false ∧ addV l (x0, x1) = ([], 1)) ∨ (isT x0 = true ∧ x1 < 1 ∧ addV l (x0, x1) = ([], 1)) ∨ (isT x0 = true ∧ 1 ≤ x1 ∧ 2147483647 < x1 ∧ addV l (x0, x1) = ([], 17)) ∨ (isT x0 = true ∧ 1 ≤ x1 ∧ x1 ≤ 2147483647 ∧ x1 - 1 ≠ sy l x0.toNat ∧ addV l (x0, x1) = ([], 9)) ∨ (isT x0 = true ∧ 1 ≤ x1 ∧ x1 ≤ 2147483647 ∧ x1 - 1 = sy l x0.toNat ∧ addV l (x0, x1) = (vec (put1 (sy l) x0.toNat x1), 0)) := by
  unfold addV isT
  by_cases h1 : 1 ≤ x0 ∧ x0 ≤ 16
  · by_cases h2 : x1 < 1
    · exact .inr (.inl ⟨by simpa using h1, h2, by rw [if_pos (.inr h2)]⟩)
    · by_cases h3 : 2147483647 < x1
      · exact .inr (.inr (.inl ⟨by simpa using h1, by omega, h3, by rw [if_neg (by simp; omega), if_pos h3]⟩))
      · by_cases h4 : x1 - 1 = sy l x0.toNat
        · exact .inr (.inr (.inr (.inr ⟨by simpa using h1, by omega, by omega, h4, by rw [if_neg (by simp; omega), if_neg h3, if_neg (by simpa using h4)]⟩)))
        · exact .inr (.inr (.inr (.inl ⟨by simpa using h1, by omega, by omega, h4, by rw [if_neg (by simp; omega), if_neg h3, if_pos h4]⟩)))
  · exact .inl ⟨by simpa using h1, by rw [if_pos (.inl h1)]⟩

end Go.Proofs.YtfkdpkckbmbmdaaGreat
