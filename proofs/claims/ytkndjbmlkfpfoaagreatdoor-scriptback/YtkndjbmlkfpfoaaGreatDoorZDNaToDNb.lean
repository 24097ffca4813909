/-
  The document's digits, number, said.
-/
import Derived.Test.YtkndjbmlkfpfoaaGreatDoorZLaidToTI
import Derived.Test.YtkndjbmlkfpfoaaGreatDoorZTJToTL

set_option linter.unusedSimpArgs false
set_option linter.unusedVariables false
namespace Go.Proofs.YtkndjbmlkfpfoaaGreatDoor
open Go.RowKit Go.Lib

theorem nd_le : ∀ (k u : Nat), u < 10 ^ (k + 1) → nDigits u ≤ k + 1
  | 0, u, h => by rw [nDigits_small (by simpa using h)]; exact Nat.le_refl _
  | k + 1, u, h => by
    by_cases h1 : u < 10
    · rw [nDigits_small h1]; omega
    · rw [nDigits_big h1]
      have := nd_le k (u / 10) (by rw [Nat.pow_succ] at h; omega)
      omega
theorem itoa_of (n : Int) : itoa n = (if n < 0 then [45] else []) ++ decDigits n.natAbs := by
  unfold itoa
  by_cases h : n < 0
  · rw [if_pos h, if_pos h]; rfl
  · rw [if_neg h, if_neg h, show n.toNat = n.natAbs by omega]; rfl
theorem itoa_lim (n : Int) (hn : in64 n) : (itoa n).length ≤ 21 := by
  obtain ⟨h1, h2⟩ := hn
  rw [itoa_of, List.length_append, decDigits_length]
  have := nd_le 19 n.natAbs (by omega)
  split <;> simp <;> omega

theorem blT_lim : ∀ (l : List Int) (i : Nat), (∀ x ∈ l, in64 x) → l.length ≤ i → (blT (l.map itoa)).length ≤ 22 * i
  | [], i, _, _ => by simp [blT]
  | x :: l, i, h, hl => by
    have h1 := itoa_lim x (h x (List.mem_cons_self))
    have h2 := blT_lim l (i - 1) (fun y hy => h y (List.mem_cons_of_mem _ hy)) (by simp at hl; omega)
    have e : blT ((x :: l).map itoa) = (32 :: itoa x) ++ blT (l.map itoa) := rfl
    rw [e, List.length_append, List.length_cons]
    simp at hl
    omega

end Go.Proofs.YtkndjbmlkfpfoaaGreatDoor

/-
  The document's name, shape.
-/
set_option linter.unusedSimpArgs false
set_option linter.unusedVariables false
namespace Go.Proofs.YtkndjbmlkfpfoaaGreatDoor
open Go.RowKit Go.Lib

/-- a kind's name; its fields as letters -/
def nmT (k : Int) : List UInt8 := if 1 ≤ k ∧ k ≤ 14 then tnm.getD (k - 1).toNat [] else []
def tsh : List (List UInt8) := [[115, 97, 116], [115, 97, 110], [115, 112], [115], [115], [], [110], [110], [110], [110, 97, 100], [110, 97], [115], [115], []]
def shT (k : Int) : List UInt8 := if 1 ≤ k ∧ k ≤ 14 then tsh.getD (k - 1).toNat [] else []
theorem nmT_ne (k : Int) : nmT k = [] ↔ ¬ (1 ≤ k ∧ k ≤ 14) := by
  unfold nmT
  constructor
  · intro h c
    rw [if_pos c] at h
    have : k = 1 ∨ k = 2 ∨ k = 3 ∨ k = 4 ∨ k = 5 ∨ k = 6 ∨ k = 7 ∨ k = 8 ∨ k = 9 ∨ k = 10 ∨ k = 11 ∨ k = 12 ∨ k = 13 ∨ k = 14 := by omega
    rcases this with rfl | rfl | rfl | rfl | rfl | rfl | rfl | rfl | rfl | rfl | rfl | rfl | rfl | rfl <;> simp [tnm] at h
  · intro h
    rw [if_neg h]

end Go.Proofs.YtkndjbmlkfpfoaaGreatDoor
