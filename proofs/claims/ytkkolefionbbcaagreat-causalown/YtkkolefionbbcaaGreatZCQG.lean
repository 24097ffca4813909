/-
  slices.SortFunc of Dots by byDot; Waits.
-/
import Derived.Test.YtkkolefionbbcaaGreatZCQF
import Derived.Test.YtkkolefionbbcaaGreatZPSo
import Derived.Test.YtkkolefionbbcaaGreatZShD
set_option linter.unusedSimpArgs false
set_option linter.unusedVariables false
namespace Go.Proofs.YtkkolefionbbcaaGreat
open Go.RowKit Go.Lib Go.Sort

variable {P N : Nat → Prop} {w W W' : World} {b : Nat} {hold : Int} {vh vw vr : Value} {hv : List (Int × Int)} {ws rd : List (Opn × Value × Value)}
theorem flatK_eqD (l : List (Int × Int)) (j : Nat) (hj : j < l.length * 2) : (flat encI l)[j]? = some (flatK encI 2 l.toArray)[j]! := by
  rw [get_flatK encI 2 l.toArray j (by simpa using hj)]
  have h2 : j / 2 < l.length := by omega
  have e := flat_get encI_lenT l (j / 2) (j % 2) l[j / 2] (List.getElem?_eq_getElem h2) (by omega)
  rw [show j / 2 * 2 + j % 2 = j by omega] at e
  rw [e]
  have e2 : l.toArray[j / 2]! = l[j / 2] := by rw [getElem!_pos l.toArray (j / 2) (by simpa using h2)]; simp
  rw [e2]
  rcases (by omega : j % 2 = 0 ∨ j % 2 = 1) with h | h <;> rw [h] <;> rfl
theorem sortD_in (B : Nat) (v : Value) (l : List (Int × Int)) (w : World) (h : w.ownsRow B 28 2 v l.length (flat encI l)) (hl : l.length ≤ 1000000) :
    Calls Tryz.prog 47 #[v, .func (.func 48) #[] #[]] w fun e W => e = .returned (.tuple #[]) ∧ W.ownsRow B 28 2 v l.length (flat encI (sortI l)) ∧ Below B w W := by
  obtain ⟨hC, (⟨rfl, hn⟩ | ⟨g, cap, cur, rfl, hB, hg, hnc, hcm, hcs, htk⟩)⟩ := h
  · have e0 : l = [] := List.eq_nil_of_length_eq_zero hn
    subst e0
    have := AnyF.slices_SortFunc_none shSortD none 0 (.func (.func 48) #[] #[]) w
    change Calls Tryz.prog 47 _ _ _ at this
    refine this.mono ?_
    rintro e W ⟨rfl, rfl⟩
    refine ⟨rfl, ?_, Below.refl _ _⟩
    rw [show sortI [] = [] by simp [sortI]]
    exact World.ownsRow_nil _ _ _ _
  · have eg : ∀ args w, (callFunc 48 args).run Tryz.prog w = .ok (.enter 48 args) w := enters_of Tryz.func48 (by kernel_rfl) rfl
    have hcmp : CmpLays Tryz.prog 48 #[] encI 2 cmpI g 0 l.toArray.size w := fun m os dk _ x y => byDot_in x.1 x.2 y.1 y.2 _
    have hgl : g < w.heap.size := (Array.getElem?_eq_some_iff.1 hg).1
    have hH : HoldsK encI 2 w g 0 l.toArray := by
      intro j hj
      simp at hj
      refine ⟨?_, by simp [World.frozen?, hg]⟩
      rw [Nat.zero_add, cell_of_row w g _ cur _ _ hg]
      show cur[j]? = some (flatK encI 2 l.toArray)[j]!
      rw [← flatK_eqD l j hj, ← htk, List.getElem?_take_of_lt (by omega)]
      simp
    have := AnyQ.slices_SortFunc_total shSortD 2 Tryz.isAgg28 Tryz.sizeOf28 encI encI_lenT (fun x u hu => by simp [encI] at hu; rcases hu with rfl | rfl <;> rfl) cmpI swoI 48 #[] g 0 cap l.toArray w eg hcmp hH hgl (by simp; omega) totI
    change Calls Tryz.prog 47 _ _ _ at this
    simp only [List.size_toArray] at this
    refine this.mono ?_
    rintro e W ⟨rfl, n, os, rfl⟩
    have hsz : (sortI l).length = l.length := (sortI_perm l).length_eq
    have hK := holdsK_sortWorldK encI 2 w g 0 n l.toArray (sortI l).toArray os hgl hH (by simp [hsz])
    have hps : (putRowK encI 2 (Sort.ahead w n) g 0 (sortI l).toArray).heap.size = w.heap.size := by rw [size_putRowK]; rfl
    obtain ⟨cur', hc', hcz⟩ : ∃ cur', (sortWorldK encI 2 w g 0 n (sortI l).toArray os).heap[g]? = some (.cells cur' 28 (0, 0)) ∧ cur'.size = cur.size := by
      have hp : (putRowK encI 2 (Sort.ahead w n) g 0 (sortI l).toArray).heap[g]? = some (.cells (putCells id 0 (flatK encI 2 (sortI l).toArray) cur) 28 (0, 0)) := by
        show (w.heap.modify g _)[g]? = _
        rw [Array.getElem?_modify, if_pos rfl, hg]
        rfl
      refine ⟨putCells id 0 (flatK encI 2 (sortI l).toArray) cur, ?_, by simp [putCells]⟩
      show ((putRowK encI 2 (Sort.ahead w n) g 0 (sortI l).toArray).heap ++ os)[g]? = _
      rw [Array.getElem?_append_left (by omega), hp]
    refine ⟨rfl, ⟨by rw [flat_len encI_lenT, hsz], .inr ⟨g, cap, cur', rfl, hB, hc', hnc, hcm, by rw [hcz, hcs], ?_⟩⟩, ⟨rfl, rfl, rfl, size_sortWorldK_c encI 2 w g 0 n _ os, fun k hk => ?_⟩⟩
    · apply List.ext_getElem?
      intro j
      rcases Nat.lt_or_ge j (l.length * 2) with hj | hj
      · have := (hK j (by simp [hsz]; omega)).1
        rw [Nat.zero_add, cell_of_row _ g _ cur' _ _ hc'] at this
        change cur'[j]? = some (flatK encI 2 (sortI l).toArray)[j]! at this
        rw [← flatK_eqD (sortI l) j (by rw [hsz]; exact hj)] at this
        rw [List.getElem?_take_of_lt hj, ← this]
        simp
      · rw [List.getElem?_eq_none (by rw [List.length_take]; omega), List.getElem?_eq_none (by rw [flat_len encI_lenT, hsz]; omega)]
    · show ((putRowK encI 2 (Sort.ahead w n) g 0 (sortI l).toArray).heap ++ os)[k]? = _
      rw [Array.getElem?_append_left (by omega)]
      show (w.heap.modify g _)[k]? = _
      rw [Array.getElem?_modify, if_neg (by omega)]
theorem Waits_in (h : QM P w b hold vh vw vr hv ws rd) (hl : ws.length ≤ 1000000) :
    Calls Tryz.prog 18 #[.pointer (some ⟨b, 0, none⟩)] w fun e W => ∃ v', e = .returned v' ∧ W.ownsRow w.heap.size 28 2 v' ws.length (flat encI (sortI (dotsT ws))) ∧ Below w.heap.size w W :=
  Waits_by h hl sortI sortD_in

end Go.Proofs.YtkkolefionbbcaaGreat
