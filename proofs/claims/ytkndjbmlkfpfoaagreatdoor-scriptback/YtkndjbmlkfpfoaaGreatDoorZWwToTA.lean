/-
  The words that are wanted, in memory, one by one.
-/
import Derived.Test.YtkndjbmlkfpfoaaGreatDoorZSn0ToWr
import Derived.Test.YtkndjbmlkfpfoaaGreatDoorZShelfToQu

set_option linter.unusedSimpArgs false
set_option linter.unusedVariables false
namespace Go.Proofs.YtkndjbmlkfpfoaaGreatDoor
open Go.RowKit Go.Lib

structure WS (w W : World) (v : Value) (l : List It) : Prop where
  bel : Below w.heap.size w W
  bx : Bq W w.heap.size 66 #[v]
  ow : OwW W (w.heap.size + 1) v l
variable {w W W' : World} {v : Value} {l : List It}
theorem WS.lt (h : WS w W v l) {k : Nat} (hk : v.ownBlock = some k) : w.heap.size < k ∧ k < W.heap.size := by
  have := h.ow.lt k hk
  omega
theorem WS.below (h : WS w W v l) (hb : Below W.heap.size W W') : WS w W' v l :=
  ⟨bnext h.bel hb, h.bx.keep hb h.bx.lt, owns_kp (N := fun _ => False) h.ow (Kp.of_below hb) (fun _ _ e => e)⟩
theorem WS.set (h : WS w W v l) (p : Addr) (hp : w.heap.size < p.block) (hv : ∀ k, v.ownBlock = some k → k ≠ p.block) (u : Value) : WS w (W.setCell p u) v l :=
  ⟨h.bel.setCell (by omega) u, h.bx.setO p (by omega) u, owns_kp (N := fun i => i = p.block) h.ow (Kp.set W p u rfl) (fun i hi e => hv i hi e)⟩
theorem WS.new (w : World) : WS w (w.alloc (.cells #[.slice none 0 0] 66)) (.slice none 0 0) [] :=
  ⟨(Below.refl _ _).alloc (Nat.le_refl _) _, Bq.new _ _ _, World.ownsRow_nil _ _ _ _⟩
theorem WS.form (h : WS w W v l) : ∃ a c, v = .slice a l.length c := owns_form h.ow
/-- one word more -/
theorem WS.push (h : WS w W v l) (ty : TypeId) (x : It) {X : World} {nb : Nat} (hX : Below W.heap.size W X) (hbx : Bq X nb 73 (encW x).toArray) (hl : l.length ≤ 1000000) {L : Nat} (hL : l.length = L) :
    ∃ (a' : Option Addr) (c' : Nat) (X' X2 : World), (Builtin.append_ #[66, 66] ty #[v, .slice (some ⟨nb, 0, none⟩) 1 1]).run Tryz.prog X = .ok (.slice a' (L + 1) c') X' ∧ X'.cell? ⟨w.heap.size, 0, none⟩ = some v ∧ X'.frozen? ⟨w.heap.size, 0, none⟩ = false ∧ w.heap.size < X'.heap.size ∧
      X'.setCell ⟨w.heap.size, 0, none⟩ (.slice a' (L + 1) c') = X2 ∧ Hid (WS w X2 (.slice a' (L + 1) c') (l ++ [x]) ∧ Kp (fun i => i = w.heap.size ∨ v.ownBlock = some i) X X2) := by
  subst hL
  have h' := h.below hX
  have hN := h'.bx.lt
  obtain ⟨v', X', h1, h2, h3, h4⟩ := append_word X ty (w.heap.size + 1) v l x nb h'.ow hbx (by omega) hl
  have k := Kp.of_grown (N := fun k => v.ownBlock = some k) h3 (fun k hk => hk)
  have B' : Bq X' w.heap.size 66 #[v] := (k.block _ hN (fun e => by have := h'.lt e; omega)).trans h'.bx
  obtain ⟨a', c', e⟩ := owns_form h2
  rw [List.length_append] at e
  have e' : v' = .slice a' (l.length + 1) c' := e
  subst e'
  have k2 : Kp (fun i => i = w.heap.size) X' (X'.setCell ⟨w.heap.size, 0, none⟩ (.slice a' (l.length + 1) c')) := Kp.set X' _ _ rfl
  refine ⟨a', c', X', _, h1, B'.cell 0 _ rfl, B'.frozen 0, B'.lt, rfl, hide ⟨⟨?_, B'.set _, ?_⟩, ?_⟩⟩
  · exact (k.below h'.bel (fun i hi => by have := h'.lt hi; omega)).setCell (Nat.le_refl _) _
  · exact owns_kp h2 k2 (fun i hi e => by have := h2.lt i hi; omega)
  · exact (k.wk (fun i hi => .inr hi)).trans k2 (fun i hi => .inl (.inl hi))
theorem WS.row {a : Option Addr} {L c : Nat} (h : WS w W (.slice a L c) l) : ∀ j u, (flat encW l)[j]? = some u → ∃ g, g < W.heap.size ∧ a = some ⟨g, 0, none⟩ ∧ W.cell? ⟨g, j, none⟩ = some u := by
  intro j u hu
  have h0 := h.ow
  obtain ⟨hl, (⟨e, hn⟩ | ⟨g, cap, cur, e, hbg, hg, hc1, hc2, hc3, hc4⟩)⟩ := h.ow
  · have hj := (List.getElem?_eq_some_iff.1 hu).1
    rw [hl, hn] at hj
    omega
  · have hj := (List.getElem?_eq_some_iff.1 hu).1
    cases e
    exact ⟨g, (Array.getElem?_eq_some_iff.1 hg).1, rfl, (World.ownsRow.cellAt h0 j (by omega)).trans hu⟩
theorem Bq.sets {W : World} {b : Nat} {t : TypeId} {vs : Array Value} (h : Bq W b t vs) (j : Nat) (v : Value) : Bq (W.setCell ⟨b, j, none⟩ v) b t (vs.setIfInBounds j v) := by
  have e : W.heap[b]? = some (.cells vs t (0, 0)) := h
  unfold Bq
  simp [World.setCell, e, Array.getElem?_modify]
theorem step_append_eq {ops : Array Oper} {o : Oper} {a : Act} {w w' : World} {K : Act → World → Prop} {Q : Exit → Act → World → Prop} {E : Prop} (hg : o.guard = none) (s x : Operand) (t : TypeId) (hop : o.op = Op.call { callee := Callee.builtin Builtin.append, args := #[s, x], argTypes := #[t, t] })
    (v u v' : Value) (hs : a.eval s = v) (hx : a.eval x = u) (hr : (Builtin.append_ #[t, t] o.type #[v, u]).run Tryz.prog w = .ok v' w') (hK : K (a.put o.dst v') w') : if Region.wanted o (yielded ops a.tmps) = true then Oper.wp Tryz.prog o a w K Q else E := by
  have hw : Region.wanted o (yielded ops a.tmps) = true := by simp [Region.wanted, hg]
  rw [if_pos hw]
  unfold Oper.wp
  simp [execOp, hop, resolve, invoke, builtin, hs, hx, hr, Result.andThen]
  exact hK
end Go.Proofs.YtkndjbmlkfpfoaaGreatDoor

/-
  Rows of strings: what they are in memory, one more, many more.
-/
set_option linter.unusedSimpArgs false
set_option linter.unusedVariables false
namespace Go.Proofs.YtkndjbmlkfpfoaaGreatDoor
open Go.RowKit Go.Lib

def enT (t : List UInt8) : List Value := [.string (ofL t)]
theorem enT_len (t : List UInt8) : (enT t).length = 1 := rfl
def RT (W : World) (v : Value) (l : List (List UInt8)) : Prop := RC W v l.length (flat enT l)
def OT (W : World) (B : Nat) (v : Value) (l : List (List UInt8)) : Prop := W.ownsRow B 9 1 v l.length (flat enT l)
theorem RT.below {W W' : World} {v : Value} {l : List (List UInt8)} (h : RT W v l) (hb : Below W.heap.size W W') : RT W' v l := RC.below h hb
theorem OT.rt {W : World} {B : Nat} {v : Value} {l : List (List UInt8)} (h : OT W B v l) : RT W v l := RC.of_owns h
theorem OT.kp {N : Nat → Prop} {W W' : World} {B : Nat} {v : Value} {l : List (List UInt8)} (h : OT W B v l) (k : Kp N W W') (hn : ∀ i, B ≤ i → ¬ N i) : OT W' B v l :=
  owns_kp h k (fun i hi => hn i (World.ownsRow.lt h i hi).1)
theorem OT.below {W W' : World} {B : Nat} {v : Value} {l : List (List UInt8)} (h : OT W B v l) (hb : Below W.heap.size W W') : OT W' B v l := owns_kp (N := fun _ => False) h (Kp.of_below hb) (fun _ _ e => e)
theorem OT.nil (W : World) (B : Nat) : OT W B (.slice none 0 0) [] := World.ownsRow_nil _ _ _ _
theorem OT.one (W : World) (t : List UInt8) : OT (W.alloc (.cells #[.string (ofL t)] 9)) W.heap.size (.slice (some ⟨W.heap.size, 0, none⟩) 1 1) [t] := by
  refine ⟨rfl, .inr ⟨W.heap.size, 1, #[.string (ofL t)], rfl, Nat.le_refl _, (Bq.new W 9 #[.string (ofL t)]), ?_⟩⟩
  simp [flat, enT]
  unfold maxLen
  omega
theorem flat_one (l : List (List UInt8)) : ∀ u ∈ flat enT l, u.oneCell' = true := fun u hu => by
  obtain ⟨x, _, h⟩ := flat_mem hu
  simp [enT] at h
  subst h
  rfl
theorem flatT_len (l : List (List UInt8)) : (flat enT l).length = l.length := by rw [flat_len enT_len, Nat.mul_one]
theorem infoT : (Tryz.prog.info? 9).map (fun i => (i.zero, i.size, i.bytes)) = some (some (.string ⟨#[]⟩), 1, 16) := by kernel_rfl
/-- append(l, x) -/
theorem append_txt (w : World) (ty : TypeId) (N : Nat) (v : Value) (l : List (List UInt8)) (t : List UInt8) (nb : Nat) (h : OT w N v l) (hbx : Bq w nb 9 #[.string (ofL t)]) (hN : N ≤ w.heap.size) (hl : l.length ≤ 100000000) :
    ∃ v' w', (Builtin.append_ #[96, 96] ty #[v, .slice (some ⟨nb, 0, none⟩) 1 1]).run Tryz.prog w = .ok v' w' ∧ OT w' N v' (l ++ [t]) ∧ w.grownBy w' v.ownBlock ∧ (v'.ownBlock = v.ownBlock ∨ v'.ownBlock = some w.heap.size) := by
  obtain ⟨i0, hi, hz0, hz1, hz2⟩ := info_parts5 infoT
  obtain ⟨v', w', h1, h2, h3, h4, h5⟩ := run_append_own_at (P := Tryz.prog) w N 96 ty 9 i0 _ 1 16 Tryz.underlying96 hi hz0 hz1 hz2 rfl (by decide) v l.length _ h ⟨nb, 0, none⟩ 1 1 (enT t) rfl (fun j u hu => by
    rw [Addr.add_lit, Nat.zero_add]
    exact hbx.cell j u (by rw [← hu]; simp [enT])) (fun u hu => by simp [enT] at hu; subst hu; rfl) (by unfold maxLen; omega) (by omega) (by first | omega | (simp; omega))
  refine ⟨v', w', h1, ?_, h3, h5⟩
  unfold OT
  rw [flat_append, List.length_append]
  simpa [flat] using h2
/-- append(l, m...) -/
theorem append_txts (w : World) (ty : TypeId) (N : Nat) (v u : Value) (l m : List (List UInt8)) (h : OT w N v l) (hu : RT w u m) (hN : N ≤ w.heap.size) (hl : l.length ≤ 100000000) (hm : m.length ≤ 100000000) :
    ∃ v' w', (Builtin.append_ #[96, 96] ty #[v, u]).run Tryz.prog w = .ok v' w' ∧ OT w' N v' (l ++ m) ∧ w.grownBy w' v.ownBlock := by
  obtain ⟨i0, hi, hz0, hz1, hz2⟩ := info_parts5 infoT
  have step : ∀ (ad : Addr) (cc : Nat), u = .slice (some ad) m.length cc → (∀ j x, (flat enT m)[j]? = some x → w.cell? (ad.add j) = some x) → ∃ v' w', (Builtin.append_ #[96, 96] ty #[v, u]).run Tryz.prog w = .ok v' w' ∧ OT w' N v' (l ++ m) ∧ w.grownBy w' v.ownBlock := by
    rintro ad cc rfl hc
    obtain ⟨v', w', q1, q2, q3, q4, _⟩ := run_append_own_at (P := Tryz.prog) w N 96 ty 9 i0 _ 1 16 Tryz.underlying96 hi hz0 hz1 hz2 rfl (by decide) v l.length (flat enT l) h ad m.length cc (flat enT m) (by rw [flatT_len]; omega) hc (flat_one m) (by unfold maxLen; omega) (by omega) hN
    refine ⟨v', w', q1, ?_, q3⟩
    unfold OT
    rw [flat_append, List.length_append]
    exact q2
  rcases hu with ⟨h0, a, cap, rfl⟩ | ⟨b, off, cap, rfl, _, _, hc⟩
  · have e : m = [] := List.eq_nil_of_length_eq_zero h0
    subst e
    cases a with
    | some ad => exact step ad cap rfl (fun j x hx => by simp [flat] at hx)
    | none =>
      rcases h.2 with ⟨rfl, e0⟩ | ⟨g, cg, cur, rfl, hbg, hg, h1, h2, h3, h4⟩
      · refine ⟨.slice none 0 0, w, ?_, by simpa using h, ⟨rfl, rfl, rfl, Nat.le_refl _, fun _ _ _ => rfl⟩⟩
        simp [Builtin.append_, run_underlying Tryz.underlying96, sizeOf, typeInfo, hi, Builtin.lenOf, Builtin.firstCells, storeCells]
      · refine ⟨.slice (some ⟨g, 0, none⟩) l.length cg, w, ?_, by simpa using h, ⟨rfl, rfl, rfl, Nat.le_refl _, fun _ _ _ => rfl⟩⟩
        simp [Builtin.append_, run_underlying Tryz.underlying96, sizeOf, typeInfo, hi, Builtin.lenOf, Builtin.firstCells, storeCells, h1]
  · exact step ⟨b, off, none⟩ cap rfl (fun j x hx => by rw [Addr.add_lit]; exact hc j x hx)
theorem RT.at {W : World} {a : Option Addr} {n c : Nat} {l : List (List UInt8)} (h : RT W (.slice a n c) l) {i : Nat} {t : List UInt8} (hi : l[i]? = some t) : ∃ b off, a = some ⟨b, off, none⟩ ∧ b < W.heap.size ∧ W.cell? ⟨b, off + i, none⟩ = some (.string (ofL t)) := by
  rcases h with ⟨h0, _⟩ | ⟨b, off, cap, e, hn, hlt, hc⟩
  · have := (List.getElem?_eq_some_iff.1 hi).1; omega
  · simp at e
    exact ⟨b, off, e.1, hlt, hc i _ (by have := flat_get enT_len l i 0 t hi (by omega); rw [Nat.mul_one, Nat.add_zero] at this; rw [this]; rfl)⟩
end Go.Proofs.YtkndjbmlkfpfoaaGreatDoor
