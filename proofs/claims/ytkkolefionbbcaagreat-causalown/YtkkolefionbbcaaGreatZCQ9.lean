/-
  A row without one of its places.
-/
import Derived.Test.YtkkolefionbbcaaGreatZCQ8
import Derived.Test.YtkkolefionbbcaaGreatZCQ3
set_option linter.unusedSimpArgs false
set_option linter.unusedVariables false
namespace Go.Proofs.YtkkolefionbbcaaGreat
open Go.RowKit Go.Lib

/-- append(q[:i], q[i+1:]...) -/
theorem append_cut (w : World) (ty : TypeId) (g cap n i : Nat) (A X B : List Value) (h : w.ownsRow 0 42 11 (.slice (some ⟨g, 0, none⟩) n cap) n (A ++ X ++ B)) (hA : A.length = i * 11) (hX : X.length = 11) (hi : i < n) (h1 : ∀ u ∈ B, u.oneCell' = true) :
    ∃ w' R, (Builtin.append_ #[47, 47] ty #[.slice (some ⟨g, 0, none⟩) i cap, .slice (if cap = i + 1 then some ⟨g, 0, none⟩ else some ⟨g, (i + 1) * 11, none⟩) (n - (i + 1)) (cap - (i + 1))]).run Tryz.prog w = .ok (.slice (some ⟨g, 0, none⟩) (n - 1) cap) w' ∧ w'.ownsRow 0 42 11 (.slice (some ⟨g, 0, none⟩) n cap) n ((A ++ B) ++ R) ∧ Kp (fun k => k = g) w w' := by
  obtain ⟨hC, (⟨e, _⟩ | ⟨g', cap', cur, e, hb, hg, hnc, hcm, hcs, htk⟩)⟩ := h
  · simp at e
  simp only [Value.slice.injEq, Option.some.injEq, Addr.mk.injEq, and_true, true_and] at e
  obtain ⟨rfl, rfl⟩ := e
  obtain ⟨i0, hi0, hz0, hz1, hz2⟩ := info_parts infoO
  obtain ⟨m, hm⟩ : ∃ m, n - (i + 1) = m := ⟨_, rfl⟩
  have hB : B.length = m * 11 := by
    rw [List.length_append, List.length_append, hA, hX] at hC
    omega
  have hcl : cur.toList.length = cap * 11 := by rw [Array.length_toList, hcs]
  obtain ⟨src, hsrc⟩ : ∃ src, (if cap = i + 1 then (⟨g, 0, none⟩ : Addr) else ⟨g, (i + 1) * 11, none⟩) = src := ⟨_, rfl⟩
  have hsrc' : (if cap = i + 1 then some (⟨g, 0, none⟩ : Addr) else some ⟨g, (i + 1) * 11, none⟩) = some src := by rw [← hsrc]; split <;> rfl
  have hnews : ∀ j u, B[j]? = some u → w.cell? (src.add j) = some u := fun j u hu => by
    have hj := (List.getElem?_eq_some_iff.1 hu).1
    have hne : cap ≠ i + 1 := by omega
    rw [← hsrc, if_neg hne, Addr.add_lit, cell_of_row w g _ cur _ _ hg]
    have q : (A ++ X ++ B)[(i + 1) * 11 + j]? = some u := by
      rw [List.getElem?_append_right (by rw [List.length_append, hA, hX]; omega), List.length_append, hA, hX, show (i + 1) * 11 + j - (i * 11 + 11) = j by omega, hu]
    rw [← htk, List.getElem?_take_of_lt (by omega)] at q
    simpa using q
  have htA : cur.toList.take (i * 11) = A := by
    have := congrArg (List.take (i * 11)) htk
    rw [List.take_take, Nat.min_eq_left (by omega)] at this
    rw [this, List.append_assoc, List.take_append_of_le_length (by omega), List.take_of_length_le (by omega)]
  have hf := run_firstCells_some (P := Tryz.prog) w i0.size m src m (cap - (i + 1)) B (by rw [hB, hz1]) hnews
  have hst := run_storeCells_at Tryz.prog g (i * 11) 42 B 0 cur w hg (by rw [hB, hcs]; omega) h1
  simp only [Nat.add_zero] at hst
  have hroom : i + m ≤ cap := by omega
  rw [hsrc', hm]
  refine ⟨w.setRow g (cur.toList.take (i * 11) ++ B ++ cur.toList.drop (i * 11 + B.length)).toArray, (cur.toList.drop (i * 11 + B.length)).take 11, ?_, ⟨?_, .inr ⟨g, cap, _, rfl, hb, setRow_heap w g cur _ _ _ hg, hnc, hcm, ?_, ?_⟩⟩, ⟨rfl, rfl, rfl, by simp, fun k _ hk => setRow_other w g k _ (fun e => hk e)⟩⟩
  · rw [show n - 1 = i + m by omega]
    rw [hz1] at hf
    simp [Builtin.append_, run_underlying Tryz.underlying47, sizeOf, typeInfo, hi0, hz1, Builtin.lenOf, hroom, Addr.add_lit, hf, hst]
  · rw [List.length_append, List.length_append, hA, hB, List.length_take, List.length_drop, hcl]
    omega
  · simp only [List.size_toArray, List.length_append, List.length_take, List.length_drop, hcl, hB]
    omega
  · show (cur.toList.take (i * 11) ++ B ++ cur.toList.drop (i * 11 + B.length)).take (n * 11) = _
    rw [htA, List.take_append, List.take_of_length_le (by rw [List.length_append, hA, hB]; omega), List.length_append, hA, hB, show n * 11 - (i * 11 + m * 11) = 11 by omega]

end Go.Proofs.YtkkolefionbbcaaGreat
