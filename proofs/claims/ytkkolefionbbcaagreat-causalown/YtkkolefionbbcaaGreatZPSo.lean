/-
  Dots in their order (pure).
-/
import Derived.Test.YtkkolefionbbcaaGreatZXKR
import Derived.Shelf.SlSortCmp.NoneTotal
set_option linter.unusedSimpArgs false
set_option linter.unusedVariables false
namespace Go.Proofs.YtkkolefionbbcaaGreat
open Go.RowKit Go.Lib Go.Sort

def lexLt (a b : Int × Int) : Prop := a.1 < b.1 ∨ (a.1 = b.1 ∧ a.2 < b.2)
theorem lex_irrefl (a : Int × Int) : ¬ lexLt a a := by unfold lexLt; omega
theorem lex_trans {a b c : Int × Int} (h : lexLt a b) (k : lexLt b c) : lexLt a c := by unfold lexLt at *; omega
theorem lex_tri (a b : Int × Int) : lexLt a b ∨ a = b ∨ lexLt b a := by
  obtain ⟨a1, a2⟩ := a
  obtain ⟨b1, b2⟩ := b
  unfold lexLt
  simp only [Prod.mk.injEq]
  omega
theorem ltOf_cmpI (x y : Int × Int) : ltOf cmpI x y = true ↔ lexLt x y := by
  unfold ltOf
  rw [decide_eq_true_iff]
  unfold lexLt
  have h := @cmpI_ge x y
  constructor
  · intro h1
    by_cases h2 : x.1 < y.1 ∨ (x.1 = y.1 ∧ x.2 < y.2)
    · exact h2
    · have := h.2 h2; omega
  · intro h1
    by_cases h2 : 0 ≤ cmpI x y
    · exact absurd h1 (h.1 h2)
    · omega
theorem swoI : SWO (ltOf cmpI) where
  irrefl x := by
    cases h : ltOf cmpI x x
    · rfl
    · exact absurd ((ltOf_cmpI x x).1 h) (lex_irrefl x)
  trans x y z h1 h2 := (ltOf_cmpI x z).2 (lex_trans ((ltOf_cmpI x y).1 h1) ((ltOf_cmpI y z).1 h2))
  ntrans x y z h1 h2 := by
    have n1 : ¬ lexLt x y := fun h => by rw [(ltOf_cmpI x y).2 h] at h1; cases h1
    have n2 : ¬ lexLt y z := fun h => by rw [(ltOf_cmpI y z).2 h] at h2; cases h2
    cases h : ltOf cmpI x z
    · rfl
    · have := (ltOf_cmpI x z).1 h
      unfold lexLt at *
      omega
theorem totI (x y : Int × Int) (h1 : ltOf cmpI x y = false) (h2 : ltOf cmpI y x = false) : x = y := by
  rcases lex_tri x y with h | h | h
  · rw [(ltOf_cmpI x y).2 h] at h1; cases h1
  · exact h
  · rw [(ltOf_cmpI y x).2 h] at h2; cases h2

def sortI (l : List (Int × Int)) : List (Int × Int) := l.mergeSort fun x y => !ltOf cmpI y x
theorem sortI_perm (l : List (Int × Int)) : (sortI l).Perm l := List.mergeSort_perm l _
theorem sortI_sorted (l : List (Int × Int)) : (sortI l).Pairwise fun x y => ¬ lexLt y x := by
  have h : (sortI l).Pairwise (fun x y => (!ltOf cmpI y x) = true) := List.pairwise_mergeSort (le := fun x y => !ltOf cmpI y x) (fun a b c h1 h2 => by
    simp only [Bool.not_eq_true'] at *
    exact swoI.ntrans c b a h2 h1) (fun a b => by
    cases h1 : ltOf cmpI b a
    · simp
    · cases h2 : ltOf cmpI a b
      · simp
      · have := swoI.trans a b a h2 h1
        rw [swoI.irrefl] at this
        cases this) l
  exact h.imp fun {x y} hxy e => by rw [(ltOf_cmpI y x).2 e] at hxy; cases hxy

end Go.Proofs.YtkkolefionbbcaaGreat
