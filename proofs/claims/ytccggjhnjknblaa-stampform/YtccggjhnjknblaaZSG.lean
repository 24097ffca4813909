/-
  StampForm: a row of identifiers that is turned about: two exchanged, one put behind.
-/
import Derived.Test.YtccggjhnjknblaaZSF
set_option linter.unusedSimpArgs false
set_option linter.unusedVariables false
namespace Go.Proofs.Ytccggjhnjknblaa
open Go.RowKit Go.Lib

theorem flat_setI : ∀ (M : List (Int × Int)) (k : Nat) (y : Int × Int), ((flat encI M).set (k * 2) (.int .i64 y.1)).set (k * 2 + 1) (.int .i64 y.2) = flat encI (M.set k y)
  | [], k, y => by simp [flat]
  | x :: M, 0, y => by simp [flat, encI]
  | x :: M, k + 1, y => by
    have ih := flat_setI M k y
    rw [List.set_cons_succ, flat_cons, flat_cons, ← ih, show (k + 1) * 2 = k * 2 + 1 + 1 by omega]
    rfl
theorem owns_setI {W : World} {B n g c : Nat} {M : List (Int × Int)} (h : W.ownsRow B 30 2 (.slice (some ⟨g, 0, none⟩) n c) n (flat encI M)) (hM : M.length = n) {k : Nat} (hk : k < n) (y1 y2 : Int) :
    ((W.setCell ⟨g, k * 2, none⟩ (.int .i64 y1)).setCell ⟨g, k * 2 + 1, none⟩ (.int .i64 y2)).ownsRow B 30 2 (.slice (some ⟨g, 0, none⟩) n c) n (flat encI (M.set k (y1, y2))) := by
  obtain ⟨h1, (⟨e, _⟩ | ⟨g', cap, cur, e, hb, hg, hc1, hc2, hc3, hc4⟩)⟩ := h
  · cases e
  simp at e
  obtain ⟨rfl, rfl⟩ := e
  have hx : Bx W g 30 cur := hg
  have h3 := (hx.set (k * 2) (.int .i64 y1)).set (k * 2 + 1) (.int .i64 y2)
  refine ⟨?_, .inr ⟨g, c, _, rfl, hb, h3, hc1, hc2, by simpa using hc3, ?_⟩⟩
  · rw [flat_len encI_len, List.length_set, hM]
  · rw [← flat_setI]
    simp only [Array.toList_setIfInBounds]
    rw [← hc4, List.take_set, List.take_set]
theorem owns_atI {W : World} {B n : Nat} {a : Option Addr} {c : Nat} {M : List (Int × Int)} (h : W.ownsRow B 30 2 (.slice a n c) n (flat encI M)) {k : Nat} {x : Int × Int} (hx : M[k]? = some x) (hM : M.length = n) : ∃ g, a = some ⟨g, 0, none⟩ ∧ B ≤ g ∧ g < W.heap.size ∧ W.cell? ⟨g, k * 2, none⟩ = some (.int .i64 x.1) ∧ W.cell? ⟨g, k * 2 + 1, none⟩ = some (.int .i64 x.2) ∧ ∀ j, W.frozen? ⟨g, j, none⟩ = false := by
  have hk := (List.getElem?_eq_some_iff.1 hx).1
  have h0 := h
  obtain ⟨h1, (⟨e, h2⟩ | ⟨g, cap, cur, e, hb, hg, hc1, hc2, hc3, hc4⟩)⟩ := h
  · omega
  simp at e
  obtain ⟨rfl, rfl⟩ := e
  have hbx : Bx W g 30 cur := hg
  refine ⟨g, rfl, hb, hbx.lt, ?_, ?_, fun j => hbx.frozen j⟩
  · have h2 := h0.cellAt (k * 2) (by omega)
    rw [show k * 2 = k * 2 + 0 from rfl, flat_get encI_len M k 0 x hx (by omega)] at h2
    exact h2
  · have h2 := h0.cellAt (k * 2 + 1) (by omega)
    rw [flat_get encI_len M k 1 x hx (by omega)] at h2
    exact h2
/-- two exchanged -/
theorem swap_mem {M : List (Int × Int)} {k : Nat} {x y : Int × Int} (h0 : M[0]? = some x) (hk : M[k]? = some y) : ∀ z, z ∈ (M.set 0 y).set k x ↔ z ∈ M := fun z => by
  have hkl := (List.getElem?_eq_some_iff.1 hk).1
  have h0l := (List.getElem?_eq_some_iff.1 h0).1
  constructor
  · intro h
    rcases List.mem_or_eq_of_mem_set h with h | rfl
    · rcases List.mem_or_eq_of_mem_set h with h | rfl
      · exact h
      · exact List.mem_of_getElem? hk
    · exact List.mem_of_getElem? h0
  · intro h
    obtain ⟨j, hj⟩ := List.getElem?_of_mem h
    by_cases e0 : j = 0
    · subst e0
      rw [h0] at hj
      simp at hj
      subst hj
      exact List.mem_iff_getElem?.2 ⟨k, by rw [List.getElem?_set_self (by simpa using hkl)]⟩
    · by_cases ek : j = k
      · subst ek
        rw [hk] at hj
        simp at hj
        subst hj
        refine List.mem_iff_getElem?.2 ⟨0, ?_⟩
        rw [List.getElem?_set_ne e0, List.getElem?_set_self h0l]
      · refine List.mem_iff_getElem?.2 ⟨j, ?_⟩
        rw [List.getElem?_set_ne (Ne.symm ek), List.getElem?_set_ne (Ne.symm e0)]
        exact hj
theorem Compare_b (a b c d : Int) (w : World) :
    Calls Try.prog 17 #[.agg #[.int .i64 a, .int .i64 b], .agg #[.int .i64 c, .int .i64 d]] w fun e W => e = .returned (.int .i64 (cmpI (a, b) (c, d))) ∧ Below w.heap.size w W :=
  (Compare_in a b c d w).mono (fun e W ⟨h1, h2⟩ => ⟨h1, GrW.below h2⟩)

end Go.Proofs.Ytccggjhnjknblaa
