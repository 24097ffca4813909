/-
  A row of one's own out of another's, with a mark behind it: append(append([]T{}, l...), m).
-/
import Derived.Test.YtkndjbmlkfpfoaaGreatDoorZTN
import Derived.Test.YtkndjbmlkfpfoaaGreatDoorZRegToRegV

set_option linter.unusedSimpArgs false
set_option linter.unusedVariables false
namespace Go.Proofs.YtkndjbmlkfpfoaaGreatDoor
open Go.RowKit Go.Lib

/-- what append([]T{}, l...) is: the empty slice itself, or a row of one's own -/
def Ow3 (N : Nat) (E : TypeId) (n : Nat) (C : List Value) (W : World) (v : Value) : Prop := (n = 0 ∧ ∃ b, v = .slice (some ⟨b, 0, none⟩) 0 0) ∨ (0 < n ∧ W.ownsRow N E 1 v n C)
/-- the mark's row -/
def Mk4 (N : Nat) (E : TypeId) (y : Value) (W : World) (v : Value) : Prop := ∃ b, v = .slice (some ⟨b, 0, none⟩) 1 1 ∧ N ≤ b ∧ W.heap[b]? = some (.cells #[y] E (0, 0))
theorem Ow3.below {N : Nat} {E : TypeId} {n : Nat} {C : List Value} {W W' : World} {v : Value} (h : Ow3 N E n C W v) (hb : Below W.heap.size W W') : Ow3 N E n C W' v := by
  rcases h with h | ⟨h0, h1, h2⟩
  · exact .inl h
  · refine .inr ⟨h0, h1, ?_⟩
    rcases h2 with h2 | ⟨g, cap, cur, e, hbg, hg, hc⟩
    · exact .inl h2
    · have hlt := (Array.getElem?_eq_some_iff.1 hg).1
      exact .inr ⟨g, cap, cur, e, hbg, (hb.block g hlt).trans hg, hc⟩
theorem Mk4.below {N : Nat} {E : TypeId} {y : Value} {W W' : World} {v : Value} (h : Mk4 N E y W v) (hb : Below W.heap.size W W') : Mk4 N E y W' v := by
  obtain ⟨b, e, h1, h2⟩ := h
  exact ⟨b, e, h1, (hb.block b (Array.getElem?_eq_some_iff.1 h2).1).trans h2⟩

end Go.Proofs.YtkndjbmlkfpfoaaGreatDoor

/-
  What stays in the drawn region append(append([]T{}, l...), m)[:len(l)].
-/
set_option linter.unusedSimpArgs false
set_option linter.unusedVariables false
namespace Go.Proofs.YtkndjbmlkfpfoaaGreatDoor
open Go Go.RowKit Go.Lib

theorem own_gq {N : Nat} {E : TypeId} {k n : Nat} {C : List Value} {W W' : World} {v : Value} (h : W.ownsRow N E k v n C) (hg : ∀ i, N ≤ i → i < W.heap.size → W'.heap[i]? = W.heap[i]?) : W'.ownsRow N E k v n C := by
  obtain ⟨h1, h2⟩ := h
  refine ⟨h1, ?_⟩
  rcases h2 with h2 | ⟨g, cap, cur, e, hbg, hh, hc⟩
  · exact .inl h2
  · exact .inr ⟨g, cap, cur, e, hbg, (hg g hbg (Array.getElem?_eq_some_iff.1 hh).1).trans hh, hc⟩
structure Gs6 (N : Nat) (E : TypeId) (n : Nat) (C : List Value) (y : Value) (i : Nat) (W W' : World) : Prop where
  ow : ∀ v, Ow3 N E n C W v → Ow3 N E n C W' v
  mkd : ∀ v, Mk4 N E y W v → Mk4 N E y W' v
  r : i ≠ 5 → ∀ k, N ≤ k → k < W.heap.size → W'.heap[k]? = W.heap[k]?
theorem Gs6.of_r {N : Nat} {E : TypeId} {n : Nat} {C : List Value} {y : Value} {i : Nat} {W W' : World} (h : ∀ k, N ≤ k → k < W.heap.size → W'.heap[k]? = W.heap[k]?) : Gs6 N E n C y i W W' := by
  refine ⟨fun v hv => ?_, fun v hv => ?_, fun _ => h⟩
  · rcases hv with hv | ⟨h0, hv⟩
    · exact .inl hv
    · exact .inr ⟨h0, own_gq hv h⟩
  · obtain ⟨b, e, h1, h2⟩ := hv
    exact ⟨b, e, h1, (h b h1 (Array.getElem?_eq_some_iff.1 h2).1).trans h2⟩
theorem Gs6.refl {N : Nat} {E : TypeId} {n : Nat} {C : List Value} {y : Value} {i : Nat} (W : World) : Gs6 N E n C y i W W := .of_r fun _ _ _ => rfl
theorem Gs6.below {N : Nat} {E : TypeId} {n : Nat} {C : List Value} {y : Value} {i : Nat} {W W' : World} (h : Below W.heap.size W W') : Gs6 N E n C y i W W' := .of_r fun k _ hk => h.block k hk
/-- what the region knows of the world -/
structure Lj6 (N b off : Nat) (E : TypeId) (n : Nat) (D : List Value) (X : World) (f : Nat → Bool) (W : World) : Prop where
  o : f 9 = true → f 5 = true
  w : (f 11 = false ∧ Below N X W ∧ N ≤ W.heap.size) ∨ (f 11 = true ∧ ∃ U g c, Below N X U ∧ N ≤ U.heap.size ∧ W = U.setCell ⟨b, off, none⟩ (.slice (some ⟨g, 0, none⟩) n c) ∧ U.ownsRow N E 1 (.slice (some ⟨g, 0, none⟩) (n + 1) c) (n + 1) D)
theorem Lj6.nop {N b off : Nat} {E : TypeId} {n : Nat} {D : List Value} {X W : World} {f : Nat → Bool} (h : Lj6 N b off E n D X f W) (i : Nat) (hi : i ≠ 11) (h9 : i = 9 → f 5 = true) : Lj6 N b off E n D X (fun q => f q || q == i) W := by
  refine ⟨fun e => ?_, ?_⟩
  · simp only [Bool.or_eq_true, beq_iff_eq] at e ⊢
    rcases e with e | e
    · exact .inl (h.o e)
    · exact .inl (h9 e.symm)
  · have e : (f 11 || 11 == i) = f 11 := by
      have : (11 == i) = false := by rw [beq_eq_false_iff_ne]; exact fun e => hi e.symm
      rw [this, Bool.or_false]
    rw [e]
    exact h.w
theorem Lj6.grow {N b off : Nat} {E : TypeId} {n : Nat} {D : List Value} {X W W' : World} {f : Nat → Bool} (h : Lj6 N b off E n D X f W) (i : Nat) (hi : i ≠ 11) (h9 : i ≠ 9) (h11 : f 11 = false) (hb : Below N W W') : Lj6 N b off E n D X (fun q => f q || q == i) W' := by
  have h0 := h.nop i hi (fun e => absurd e h9)
  refine ⟨h0.o, ?_⟩
  rcases h0.w with ⟨e, k1, k2⟩ | ⟨e, _⟩
  · exact .inl ⟨e, k1.trans hb, Nat.le_trans k2 hb.size⟩
  · exfalso
    simp only [h11, Bool.false_or, beq_iff_eq] at e
    exact hi e.symm
theorem Lj6.base {N b off : Nat} {E : TypeId} {n : Nat} {D : List Value} {X W : World} {f : Nat → Bool} (h : Lj6 N b off E n D X f W) (h11 : f 11 = false) : Below N X W ∧ N ≤ W.heap.size := by
  rcases h.w with ⟨_, k⟩ | ⟨e, _⟩
  · exact k
  · rw [h11] at e; cases e
theorem Lj6.store {N b off : Nat} {E : TypeId} {n : Nat} {D : List Value} {X W : World} {f : Nat → Bool} (h : Lj6 N b off E n D X f W) (h11 : f 11 = false) {g c : Nat} (ho : W.ownsRow N E 1 (.slice (some ⟨g, 0, none⟩) (n + 1) c) (n + 1) D) : Lj6 N b off E n D X (fun q => f q || q == 11) (W.setCell ⟨b, off, none⟩ (.slice (some ⟨g, 0, none⟩) n c)) := by
  refine ⟨fun e => ?_, .inr ⟨by simp, W, g, c, (h.base h11).1, (h.base h11).2, rfl, ho⟩⟩
  simp at e ⊢
  exact h.o e
theorem Lj6.fin {N b off : Nat} {E : TypeId} {n : Nat} {D : List Value} {X W : World} {f : Nat → Bool} (h : Lj6 N b off E n D X f W) (h11 : f 11 = true) : ∃ U g c, Below N X U ∧ N ≤ U.heap.size ∧ W = U.setCell ⟨b, off, none⟩ (.slice (some ⟨g, 0, none⟩) n c) ∧ U.ownsRow N E 1 (.slice (some ⟨g, 0, none⟩) (n + 1) c) (n + 1) D := by
  rcases h.w with ⟨e, _⟩ | ⟨_, k⟩
  · rw [h11] at e; cases e
  · exact k
theorem frame_fn {a : Act} (N : Nat) (hs : a.tmps.size = N) (hd : a.defers = []) : a = { tmps := ((List.range N).map fun k => a.eval (.tmp k)).toArray, defers := [] } := by
  obtain ⟨t, d⟩ := a
  simp only at hs hd
  subst hd
  congr 1
  apply Array.ext
  · simp [hs]
  · intro i h1 h2
    simp [Act.eval, h1]

end Go.Proofs.YtkndjbmlkfpfoaaGreatDoor
