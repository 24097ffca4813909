/-
  Pure: sites rising, each once.
-/
import Derived.Test.YtmglnaldpcmakaaZPE
import Derived.Lib.SlicesCompact
set_option linter.unusedSimpArgs false
set_option linter.unusedVariables false
namespace Go.Proofs.Ytmglnaldpcmakaa
open Go.RowKit Go.Lib

theorem cmp_mem (zs : List Int) (x : Int) : x ∈ Lib.compact zs ↔ x ∈ zs := by
  unfold Lib.compact Lib.compactUpTo
  constructor
  · intro h
    obtain ⟨j, hj, rfl⟩ := List.mem_map.1 h
    have hj' : j < zs.length := by simpa using (List.mem_filter.1 hj).1
    rw [getElem!_pos zs.toArray j (by simpa using hj')]
    simp
  · intro h
    have key : ∀ j, j < zs.length → zs.toArray[j]! ∈ ((List.range zs.length).filter (Lib.keeps zs.toArray)).map (zs.toArray[·]!) := by
      intro j
      induction j with
      | zero => intro hj; exact List.mem_map.2 ⟨0, List.mem_filter.2 ⟨List.mem_range.2 hj, by simp [Lib.keeps]⟩, rfl⟩
      | succ j ih =>
        intro hj
        cases hk : Lib.keeps zs.toArray (j + 1) with
        | true => exact List.mem_map.2 ⟨j + 1, List.mem_filter.2 ⟨List.mem_range.2 hj, hk⟩, rfl⟩
        | false =>
          have e : zs.toArray[j + 1]! = zs.toArray[j]! := by
            unfold Lib.keeps at hk
            simpa using hk
          rw [e]
          exact ih (by omega)
    obtain ⟨j, hj, rfl⟩ := List.getElem_of_mem h
    have := key j hj
    rwa [getElem!_pos zs.toArray j (by simpa using hj), List.getElem_toArray] at this
theorem cmp_lt {zs : List Int} (h : zs.Pairwise (· ≤ ·)) : (Lib.compact zs).Pairwise (· < ·) := by
  unfold Lib.compact Lib.compactUpTo
  rw [List.pairwise_map]
  have hat : ∀ j, j < zs.length → zs.toArray[j]! = zs.getD j 0 := fun j hj => by
    rw [getElem!_pos zs.toArray j (by simpa using hj), List.getElem_toArray]
    simp [hj]
  have hle : ∀ i j, i < j → j < zs.length → zs.getD i 0 ≤ zs.getD j 0 := fun i j hij hj => by
    have := List.pairwise_iff_getElem.1 h i j (by omega) hj hij
    simpa [hj, show i < zs.length by omega] using this
  have hr : ((List.range zs.length).filter (Lib.keeps zs.toArray)).Pairwise (· < ·) := List.Pairwise.filter _ List.pairwise_lt_range
  refine List.Pairwise.imp_of_mem ?_ hr
  intro i j hi hj hij
  have hjn : j < zs.length := by simpa using (List.mem_filter.1 hj).1
  have hk := (List.mem_filter.1 hj).2
  rw [hat i (by omega), hat j hjn]
  unfold Lib.keeps at hk
  have hk' := of_decide_eq_true hk
  rcases hk' with e | e
  · omega
  · rw [hat j hjn, hat (j - 1) (by omega)] at e
    have h1 := hle (j - 1) j (by omega) hjn
    have h2 : zs.getD i 0 ≤ zs.getD (j - 1) 0 := by
      by_cases e2 : i = j - 1
      · rw [e2]; exact Int.le_refl _
      · exact hle i (j - 1) (by omega) (by omega)
    omega
/-- some sites rising, each once -/
def sitesL (lv : List Int) : List Int := Lib.compact (lv.mergeSort fun x y => decide (x ≤ y))
theorem sitesL_lt (lv : List Int) : (sitesL lv).Pairwise (· < ·) := by
  refine cmp_lt ?_
  have := List.pairwise_mergeSort (le := fun x y : Int => decide (x ≤ y)) (fun a b c h1 h2 => by simp at *; omega) (fun a b => by simp; omega) lv
  exact this.imp (fun h => by simpa using h)
theorem sitesL_mem (lv : List Int) (a : Int) : a ∈ sitesL lv ↔ a ∈ lv := by
  unfold sitesL
  rw [cmp_mem, List.mem_mergeSort]
theorem sitesL_len (lv : List Int) : (sitesL lv).length ≤ lv.length := by
  unfold sitesL Lib.compact Lib.compactUpTo
  rw [List.length_map]
  have := List.length_filter_le (Lib.keeps (lv.mergeSort fun x y : Int => decide (x ≤ y)).toArray) (List.range (lv.mergeSort fun x y : Int => decide (x ≤ y)).length)
  refine Nat.le_trans this ?_
  rw [List.length_range, List.length_mergeSort]
  exact Nat.le_refl _

end Go.Proofs.Ytmglnaldpcmakaa
