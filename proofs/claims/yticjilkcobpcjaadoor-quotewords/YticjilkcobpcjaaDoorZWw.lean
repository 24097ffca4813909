/-
  The words that are wanted, in memory, one by one.
-/
import Derived.Test.YticjilkcobpcjaaDoorZWr
set_option linter.unusedSimpArgs false
set_option linter.unusedVariables false
namespace Go.Proofs.YticjilkcobpcjaaDoor
open Go.RowKit Go.Lib

structure WS (w W : World) (v : Value) (l : List It) : Prop where
  bel : Below w.heap.size w W
  bx : Bq W w.heap.size 36 #[v]
  ow : OwW W (w.heap.size + 1) v l
variable {w W W' : World} {v : Value} {l : List It}
theorem WS.lt (h : WS w W v l) {k : Nat} (hk : v.ownBlock = some k) : w.heap.size < k ∧ k < W.heap.size := by
  have := h.ow.lt k hk
  omega
theorem WS.below (h : WS w W v l) (hb : Below W.heap.size W W') : WS w W' v l :=
  ⟨bnext h.bel hb, h.bx.keep hb h.bx.lt, owns_kp (N := fun _ => False) h.ow (Kp.of_below hb) (fun _ _ e => e)⟩
theorem WS.set (h : WS w W v l) (p : Addr) (hp : w.heap.size < p.block) (hv : ∀ k, v.ownBlock = some k → k ≠ p.block) (u : Value) : WS w (W.setCell p u) v l :=
  ⟨h.bel.setCell (by omega) u, h.bx.setO p (by omega) u, owns_kp (N := fun i => i = p.block) h.ow (Kp.set W p u rfl) (fun i hi e => hv i hi e)⟩
theorem WS.new (w : World) : WS w (w.alloc (.cells #[.slice none 0 0] 36)) (.slice none 0 0) [] :=
  ⟨(Below.refl _ _).alloc (Nat.le_refl _) _, Bq.new _ _ _, World.ownsRow_nil _ _ _ _⟩
theorem WS.form (h : WS w W v l) : ∃ a c, v = .slice a l.length c := owns_form h.ow
/-- one word more -/
theorem WS.push (h : WS w W v l) (ty : TypeId) (x : It) {X : World} {nb : Nat} (hX : Below W.heap.size W X) (hbx : Bq X nb 29 (encW x).toArray) (hl : l.length ≤ 1000000) {L : Nat} (hL : l.length = L) :
    ∃ (a' : Option Addr) (c' : Nat) (X' X2 : World), (Builtin.append_ #[36, 36] ty #[v, .slice (some ⟨nb, 0, none⟩) 1 1]).run Tryd.prog X = .ok (.slice a' (L + 1) c') X' ∧ X'.cell? ⟨w.heap.size, 0, none⟩ = some v ∧ X'.frozen? ⟨w.heap.size, 0, none⟩ = false ∧ w.heap.size < X'.heap.size ∧
      X'.setCell ⟨w.heap.size, 0, none⟩ (.slice a' (L + 1) c') = X2 ∧ Hid (WS w X2 (.slice a' (L + 1) c') (l ++ [x]) ∧ Kp (fun i => i = w.heap.size ∨ v.ownBlock = some i) X X2) := by
  subst hL
  have h' := h.below hX
  have hN := h'.bx.lt
  obtain ⟨v', X', h1, h2, h3, h4⟩ := append_word X ty (w.heap.size + 1) v l x nb h'.ow hbx (by omega) hl
  have k := Kp.of_grown (N := fun k => v.ownBlock = some k) h3 (fun k hk => hk)
  have B' : Bq X' w.heap.size 36 #[v] := (k.block _ hN (fun e => by have := h'.lt e; omega)).trans h'.bx
  obtain ⟨a', c', e⟩ := owns_form h2
  rw [List.length_append] at e
  have e' : v' = .slice a' (l.length + 1) c' := e
  subst e'
  have k2 : Kp (fun i => i = w.heap.size) X' (X'.setCell ⟨w.heap.size, 0, none⟩ (.slice a' (l.length + 1) c')) := Kp.set X' _ _ rfl
  refine ⟨a', c', X', _, h1, B'.cell 0 _ rfl, B'.frozen 0, B'.lt, rfl, hide ⟨⟨?_, B'.set _, ?_⟩, ?_⟩⟩
  · exact (k.below h'.bel (fun i hi => by have := h'.lt hi; omega)).setCell (Nat.le_refl _) _
  · exact owns_kp h2 k2 (fun i hi e => by have := h2.lt i hi; omega)
  · exact (k.wk (fun i hi => .inr hi)).trans k2 (fun i hi => .inl (.inl hi))
theorem WS.row {a : Option Addr} {L c : Nat} (h : WS w W (.slice a L c) l) : ∀ j u, (flat encW l)[j]? = some u → ∃ g, g < W.heap.size ∧ a = some ⟨g, 0, none⟩ ∧ W.cell? ⟨g, j, none⟩ = some u := by
  intro j u hu
  have h0 := h.ow
  obtain ⟨hl, (⟨e, hn⟩ | ⟨g, cap, cur, e, hbg, hg, hc1, hc2, hc3, hc4⟩)⟩ := h.ow
  · have hj := (List.getElem?_eq_some_iff.1 hu).1
    rw [hl, hn] at hj
    omega
  · have hj := (List.getElem?_eq_some_iff.1 hu).1
    cases e
    exact ⟨g, (Array.getElem?_eq_some_iff.1 hg).1, rfl, (World.ownsRow.cellAt h0 j (by omega)).trans hu⟩
/-- what stands behind the switch: the word is laid -/
structure WT (w : World) (v : Value) (l : List It) (bi bw A n : Nat) (it : Array Value) (x : Lw1) (W : World) : Prop where
  ws : WS w W v l
  bi_ : Bq W bi 38 it
  bw_ : Bq W bw 29 (encW ⟨x.wd A, n⟩).toArray
  ok : x.ok
  sz : x.txt.length ≤ 3010
theorem Bq.sets {W : World} {b : Nat} {t : TypeId} {vs : Array Value} (h : Bq W b t vs) (j : Nat) (v : Value) : Bq (W.setCell ⟨b, j, none⟩ v) b t (vs.setIfInBounds j v) := by
  have e : W.heap[b]? = some (.cells vs t (0, 0)) := h
  unfold Bq
  simp [World.setCell, e, Array.getElem?_modify]
theorem step_append_eq {ops : Array Oper} {o : Oper} {a : Act} {w w' : World} {K : Act → World → Prop} {Q : Exit → Act → World → Prop} {E : Prop} (hg : o.guard = none) (s x : Operand) (t : TypeId) (hop : o.op = Op.call { callee := Callee.builtin Builtin.append, args := #[s, x], argTypes := #[t, t] })
    (v u v' : Value) (hs : a.eval s = v) (hx : a.eval x = u) (hr : (Builtin.append_ #[t, t] o.type #[v, u]).run Tryd.prog w = .ok v' w') (hK : K (a.put o.dst v') w') : if Region.wanted o (yielded ops a.tmps) = true then Oper.wp Tryd.prog o a w K Q else E := by
  have hw : Region.wanted o (yielded ops a.tmps) = true := by simp [Region.wanted, hg]
  rw [if_pos hw]
  unfold Oper.wp
  simp [execOp, hop, resolve, invoke, builtin, hs, hx, hr, Result.andThen]
  exact hK
theorem size_set (W : World) (p : Addr) (v : Value) : (W.setCell p v).heap.size = W.heap.size := by simp

end Go.Proofs.YticjilkcobpcjaaDoor
