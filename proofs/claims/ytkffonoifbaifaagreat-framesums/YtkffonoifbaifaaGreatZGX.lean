/-
  Bytes of one's own, with a mark behind.
-/
import Derived.Test.YtkffonoifbaifaaGreatZFN
import Derived.Laws.OwnMore
set_option linter.unusedSimpArgs false
set_option linter.unusedVariables false
namespace Go.Proofs.YtkffonoifbaifaaGreat
open Go.RowKit Go.Lib

structure GV (w W : World) (g cap n : Nat) (m : List Nat) : Prop where
  own : W.ownsRow w.heap.size 5 1 (.slice (some ⟨g, 0, none⟩) (n + 1) cap) (n + 1) (bC (m ++ [171]))
  len : m.length = n
  byte : ∀ b ∈ m, b < 256
  bel : Below w.heap.size w W
  room : n + 1 ≤ cap
theorem GV.below {w W W' : World} {g cap n : Nat} {m : List Nat} (h : GV w W g cap n m) (hb : Below W.heap.size W W') : GV w W' g cap n m :=
  ⟨owns_kp (N := fun _ => False) h.own (Kp.of_below hb) (fun _ _ e => e), h.len, h.byte, bnext h.bel hb, h.room⟩
theorem GV.kp {N : Nat → Prop} {w W W' : World} {g cap n : Nat} {m : List Nat} (h : GV w W g cap n m) (k : Kp N W W') (hg : ¬ N g) (hn : ∀ i, N i → w.heap.size ≤ i) : GV w W' g cap n m :=
  ⟨owns_kp h.own k (fun i hi => by simp [Value.ownBlock] at hi; subst hi; exact hg), h.len, h.byte, k.below h.bel hn, h.room⟩
theorem GV.lt {w W : World} {g cap n : Nat} {m : List Nat} (h : GV w W g cap n m) : w.heap.size ≤ g ∧ g < W.heap.size := h.own.lt g rfl
theorem GV.row {w W : World} {g cap n : Nat} {m : List Nat} (h : GV w W g cap n m) : RC W (.slice (some ⟨g, 0, none⟩) n cap) m.length (bC m) := by
  rw [h.len]
  refine .inr ⟨g, 0, cap, rfl, by have := h.room; omega, h.lt.2, fun j x hx => ?_⟩
  have hj := (List.getElem?_eq_some_iff.1 hx).1
  rw [bC_length] at hj
  have hl := h.len
  rw [Nat.zero_add, h.own.cellAt j (by omega)]
  rw [← hx, bC_app, List.getElem?_append_left (by rw [bC_length]; exact hj)]
theorem GV.mark {w W : World} {g cap n : Nat} {m : List Nat} (h : GV w W g cap n m) : W.cell? ⟨g, n, none⟩ = some (.int .u8 171) := by
  rw [h.own.cellAt n (by omega), bC_app, List.getElem?_append_right (by rw [bC_length, h.len]; exact Nat.le_refl _), bC_length, h.len, Nat.sub_self]
  rfl
theorem GV.at {w W : World} {g cap n : Nat} {m : List Nat} (h : GV w W g cap n m) {j : Nat} (hj : j < n) : ∃ x, W.cell? ⟨g, j, none⟩ = some x := by
  rw [h.own.cellAt j (by omega)]
  have hl := h.len
  exact ⟨_, List.getElem?_eq_getElem (by rw [bC_length, List.length_append]; simp; omega)⟩
theorem GV.set {w W : World} {g cap n : Nat} {m : List Nat} (h : GV w W g cap n m) {j : Nat} (hj : j < n) (b : Nat) (hb : b < 256) : GV w (W.setCell ⟨g, j, none⟩ (.int .u8 (b : Nat))) g cap n (m.set j b) := by
  have hl := h.len
  have k := Kp.set (N := fun i => i = g) W ⟨g, j, none⟩ (.int .u8 (b : Nat)) rfl
  refine ⟨?_, by simp [hl], fun x hx => ?_, k.below h.bel (fun i e => by subst e; exact h.lt.1), h.room⟩
  · have := h.own.stored j (.int .u8 (b : Nat))
    rw [show (bC (m ++ [171])).set j (.int .u8 (b : Nat)) = bC (m.set j b ++ [171]) by
      unfold bC
      rw [← List.set_append_left _ _ (by omega), List.map_set]] at this
    exact this.1
  · rcases List.mem_or_eq_of_mem_set hx with e | e
    · exact h.byte x e
    · subst e; exact hb
theorem own_empty (w : World) : (w.alloc (.cells #[] 5)).ownsRow w.heap.size 5 1 (.slice (some ⟨w.heap.size, 0, none⟩) 0 0) ([] : List Nat).length (bC []) :=
  ⟨rfl, .inr ⟨w.heap.size, 0, #[], rfl, Nat.le_refl _, Bx.new w _ _, Nat.le_refl _, by unfold maxLen; omega, rfl, rfl⟩⟩
theorem owns_mark {W : World} {B : Nat} {v : Value} {l : List Nat} (h : W.ownsRow B 5 1 v (l ++ [171]).length (bC (l ++ [171]))) : ∃ g c, v = .slice (some ⟨g, 0, none⟩) (l.length + 1) c ∧ l.length + 1 ≤ c := by
  rcases h.2 with ⟨_, h0⟩ | ⟨g, cap, cur, e, _, _, h1, _⟩
  · simp at h0
  · exact ⟨g, cap, by simpa using e, by simpa using h1⟩
theorem own_one (w : World) (b : Nat) : (w.alloc (.cells #[.int .u8 (b : Nat)] 5)).ownsRow w.heap.size 5 1 (.slice (some ⟨w.heap.size, 0, none⟩) 1 1) [b].length (bC [b]) :=
  ⟨rfl, .inr ⟨w.heap.size, 1, #[.int .u8 (b : Nat)], rfl, Nat.le_refl _, Bx.new w _ _, Nat.le_refl _, by unfold maxLen; omega, rfl, rfl⟩⟩

end Go.Proofs.YtkffonoifbaifaaGreat
