/-
  Bytes, put behind bytes of one's own.
-/
import Derived.Test.YtbnhfbdfjnigoaaGreatZQ4
import Derived.Test.YtbnhfbdfjnigoaaGreatZOp
import Derived.Laws.OwnMore

set_option linter.unusedSimpArgs false
set_option linter.unusedVariables false
namespace Go.Proofs.YtbnhfbdfjnigoaaGreat
open Go.RowKit Go.Lib

theorem bC_one (L : List Nat) : ∀ u ∈ bC L, u.oneCell' = true := fun u hu => by
  unfold bC at hu
  obtain ⟨x, _, rfl⟩ := List.mem_map.1 hu
  rfl
theorem bC_length (L : List Nat) : (bC L).length = L.length := by unfold bC; simp
theorem own_empty (w : World) : (w.alloc (.cells #[] 5)).ownsRow w.heap.size 5 1 (.slice (some ⟨w.heap.size, 0, none⟩) 0 0) ([] : List Nat).length (bC []) :=
  ⟨rfl, .inr ⟨w.heap.size, 0, #[], rfl, Nat.le_refl _, Bx.new w _ _, Nat.le_refl _, by unfold maxLen; omega, rfl, rfl⟩⟩

/-- append(b, m...) of bytes -/
theorem app_bytes (w : World) (ty : TypeId) (N : Nat) (v u : Value) (L M : List Nat) (h : w.ownsRow N 5 1 v L.length (bC L)) (hv : v ≠ .slice none 0 0) (hu : RC w u M.length (bC M)) (hN : N ≤ w.heap.size) (hl : L.length ≤ 1000000) (hm : M.length ≤ 1000000) :
    ∃ v' w', (Builtin.append_ #[22, 22] ty #[v, u]).run Tryz.prog w = .ok v' w' ∧ w'.ownsRow N 5 1 v' (L ++ M).length (bC (L ++ M)) ∧ w.grownBy w' v.ownBlock ∧ v' ≠ .slice none 0 0 := by
  obtain ⟨i0, hi, hz0, hz1, hz2⟩ := info_parts infoB
  have step : ∀ (ad : Addr) (cc : Nat), u = .slice (some ad) M.length cc → (∀ j x, (bC M)[j]? = some x → w.cell? (ad.add j) = some x) → ∃ v' w', (Builtin.append_ #[22, 22] ty #[v, u]).run Tryz.prog w = .ok v' w' ∧ w'.ownsRow N 5 1 v' (L ++ M).length (bC (L ++ M)) ∧ w.grownBy w' v.ownBlock ∧ v' ≠ .slice none 0 0 := by
    rintro ad cc rfl hc
    obtain ⟨v', w', q1, q2, q3, q4, _⟩ := run_append_own_at (P := Tryz.prog) w N 22 ty 5 i0 _ 1 1 Tryz.underlying22 hi hz0 hz1 hz2 rfl (by decide) v L.length (bC L) h ad M.length cc (bC M) (by rw [bC_length]; omega) hc (bC_one M) (by unfold maxLen; omega) (by omega) hN
    refine ⟨v', w', q1, ?_, q3, fun e => hv (q4.1 e).1⟩
    rw [bC_app, List.length_append]
    exact q2
  rcases hu with ⟨h0, a, cap, rfl⟩ | ⟨b, off, cap, rfl, _, _, hc⟩
  · have e : M = [] := List.eq_nil_of_length_eq_zero h0
    subst e
    cases a with
    | some ad => exact step ad cap rfl (fun j x hx => by simp [bC] at hx)
    | none =>
      rcases h.2 with ⟨e, _⟩ | ⟨g, cg, cur, rfl, hbg, hg, h1, h2, h3, h4⟩
      · exact absurd e hv
      refine ⟨.slice (some ⟨g, 0, none⟩) L.length cg, w, ?_, by simpa using h, ⟨rfl, rfl, rfl, Nat.le_refl _, fun _ _ _ => rfl⟩, hv⟩
      simp [Builtin.append_, run_underlying Tryz.underlying22, sizeOf, typeInfo, hi, Builtin.lenOf, Builtin.firstCells, storeCells, h1]
  · exact step ⟨b, off, none⟩ cap rfl (fun j x hx => by rw [Addr.add_lit]; exact hc j x hx)

end Go.Proofs.YtbnhfbdfjnigoaaGreat

/-
  Bytes of one's own, with a mark behind.
-/
set_option linter.unusedSimpArgs false
set_option linter.unusedVariables false
namespace Go.Proofs.YtbnhfbdfjnigoaaGreat
open Go.RowKit Go.Lib

structure GV (w W : World) (g cap n : Nat) (m : List Nat) : Prop where
  own : W.ownsRow w.heap.size 5 1 (.slice (some ⟨g, 0, none⟩) (n + 1) cap) (n + 1) (bC (m ++ [171]))
  len : m.length = n
  byte : ∀ b ∈ m, b < 256
  bel : Below w.heap.size w W
  room : n + 1 ≤ cap
theorem GV.below {w W W' : World} {g cap n : Nat} {m : List Nat} (h : GV w W g cap n m) (hb : Below W.heap.size W W') : GV w W' g cap n m :=
  ⟨owns_kp (N := fun _ => False) h.own (Kp.of_below hb) (fun _ _ e => e), h.len, h.byte, bnext h.bel hb, h.room⟩
theorem GV.kp {N : Nat → Prop} {w W W' : World} {g cap n : Nat} {m : List Nat} (h : GV w W g cap n m) (k : Kp N W W') (hg : ¬ N g) (hn : ∀ i, N i → w.heap.size ≤ i) : GV w W' g cap n m :=
  ⟨owns_kp h.own k (fun i hi => by simp [Value.ownBlock] at hi; subst hi; exact hg), h.len, h.byte, k.below h.bel hn, h.room⟩
theorem GV.lt {w W : World} {g cap n : Nat} {m : List Nat} (h : GV w W g cap n m) : w.heap.size ≤ g ∧ g < W.heap.size := h.own.lt g rfl
theorem GV.row {w W : World} {g cap n : Nat} {m : List Nat} (h : GV w W g cap n m) : RC W (.slice (some ⟨g, 0, none⟩) n cap) m.length (bC m) := by
  rw [h.len]
  refine .inr ⟨g, 0, cap, rfl, by have := h.room; omega, h.lt.2, fun j x hx => ?_⟩
  have hj := (List.getElem?_eq_some_iff.1 hx).1
  rw [bC_length] at hj
  have hl := h.len
  rw [Nat.zero_add, h.own.cellAt j (by omega)]
  rw [← hx, bC_app, List.getElem?_append_left (by rw [bC_length]; exact hj)]
theorem GV.mark {w W : World} {g cap n : Nat} {m : List Nat} (h : GV w W g cap n m) : W.cell? ⟨g, n, none⟩ = some (.int .u8 171) := by
  rw [h.own.cellAt n (by omega), bC_app, List.getElem?_append_right (by rw [bC_length, h.len]; exact Nat.le_refl _), bC_length, h.len, Nat.sub_self]
  rfl
theorem GV.at {w W : World} {g cap n : Nat} {m : List Nat} (h : GV w W g cap n m) {j : Nat} (hj : j < n) : ∃ x, W.cell? ⟨g, j, none⟩ = some x := by
  rw [h.own.cellAt j (by omega)]
  have hl := h.len
  exact ⟨_, List.getElem?_eq_getElem (by rw [bC_length, List.length_append]; simp; omega)⟩
theorem GV.set {w W : World} {g cap n : Nat} {m : List Nat} (h : GV w W g cap n m) {j : Nat} (hj : j < n) (b : Nat) (hb : b < 256) : GV w (W.setCell ⟨g, j, none⟩ (.int .u8 (b : Nat))) g cap n (m.set j b) := by
  have hl := h.len
  have k := Kp.set (N := fun i => i = g) W ⟨g, j, none⟩ (.int .u8 (b : Nat)) rfl
  refine ⟨?_, by simp [hl], fun x hx => ?_, k.below h.bel (fun i e => by subst e; exact h.lt.1), h.room⟩
  · have := h.own.stored j (.int .u8 (b : Nat))
    rw [show (bC (m ++ [171])).set j (.int .u8 (b : Nat)) = bC (m.set j b ++ [171]) by
      unfold bC
      rw [← List.set_append_left _ _ (by omega), List.map_set]] at this
    exact this.1
  · rcases List.mem_or_eq_of_mem_set hx with e | e
    · exact h.byte x e
    · subst e; exact hb
theorem own_one (w : World) (b : Nat) : (w.alloc (.cells #[.int .u8 (b : Nat)] 5)).ownsRow w.heap.size 5 1 (.slice (some ⟨w.heap.size, 0, none⟩) 1 1) [b].length (bC [b]) :=
  ⟨rfl, .inr ⟨w.heap.size, 1, #[.int .u8 (b : Nat)], rfl, Nat.le_refl _, Bx.new w _ _, Nat.le_refl _, by unfold maxLen; omega, rfl, rfl⟩⟩

end Go.Proofs.YtbnhfbdfjnigoaaGreat
