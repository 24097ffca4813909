/-
  What a call leaves as it was; rows of numbers.
-/
import Derived.Test.YtmglnaldpcmakaaZB0
import Derived.Maps.AppendAt
set_option linter.unusedSimpArgs false
set_option linter.unusedVariables false
namespace Go.Proofs.Ytmglnaldpcmakaa
open Go.RowKit Go.Lib

/-- all blocks stay but those of N, and new ones come -/
structure Kp (N : Nat → Prop) (W W' : World) : Prop where
  os : W'.os = W.os
  tape : W'.tape = W.tape
  output : W'.output = W.output
  size : W.heap.size ≤ W'.heap.size
  block : ∀ k, k < W.heap.size → ¬ N k → W'.heap[k]? = W.heap[k]?
theorem Kp.refl (N : Nat → Prop) (W : World) : Kp N W W := ⟨rfl, rfl, rfl, Nat.le_refl _, fun _ _ _ => rfl⟩
theorem Kp.trans {N M : Nat → Prop} {a b c : World} (h : Kp N a b) (k : Kp M b c) (hm : ∀ i, M i → N i ∨ a.heap.size ≤ i) : Kp N a c :=
  ⟨k.os.trans h.os, k.tape.trans h.tape, k.output.trans h.output, Nat.le_trans h.size k.size, fun i hi hn =>
    (k.block i (Nat.lt_of_lt_of_le hi h.size) (fun e => by rcases hm i e with h' | h'; exact hn h'; omega)).trans (h.block i hi hn)⟩
theorem Kp.of_below {N : Nat → Prop} {W W' : World} (h : Below W.heap.size W W') : Kp N W W' := ⟨h.os, h.tape, h.output, h.size, fun k hk _ => h.block k hk⟩
theorem Kp.of_grown {N : Nat → Prop} {W W' : World} {row : Option Nat} (h : W.grownBy W' row) (hr : ∀ k, row = some k → N k) : Kp N W W' :=
  ⟨h.os, h.tape, h.output, h.size, fun k hk hn => h.block k hk (fun e => hn (hr k e.symm))⟩
theorem Kp.set {N : Nat → Prop} (W : World) (a : Addr) (v : Value) (h : N a.block) : Kp N W (W.setCell a v) := by
  have b := Below.setCell (Below.refl 0 W) (Nat.zero_le a.block) v
  exact ⟨b.os, b.tape, b.output, b.size, fun k hk hn => Below.heap_setCell W a v k (fun e => hn (e ▸ h))⟩
theorem Kp.drew {N : Nat → Prop} {W W' : World} (h : Kp N W W') : Kp N W W'.drew := ⟨h.os, h.tape, h.output, h.size, h.block⟩
theorem Kp.wk {N N' : Nat → Prop} {W W' : World} (h : Kp N W W') (hn : ∀ i, N i → N' i) : Kp N' W W' := ⟨h.os, h.tape, h.output, h.size, fun k hk hk' => h.block k hk (fun e => hk' (hn k e))⟩
theorem Kp.below {N : Nat → Prop} {w W W' : World} (k : Kp N W W') (h : Below w.heap.size w W) (hn : ∀ i, N i → w.heap.size ≤ i) : Below w.heap.size w W' :=
  ⟨k.os.trans h.os, k.tape.trans h.tape, k.output.trans h.output, Nat.le_trans h.size k.size, fun i hi => (k.block i (Nat.lt_of_lt_of_le hi h.size) (fun e => by have := hn i e; omega)).trans (h.block i hi)⟩
theorem Bx.kp {N : Nat → Prop} {W W' : World} {b : Nat} {t : TypeId} {vs : Array Value} (h : Bx W b t vs) (k : Kp N W W') (hn : ¬ N b) : Bx W' b t vs := (k.block b h.lt hn).trans h

theorem owns_kp {N : Nat → Prop} {W W' : World} {B E k n : Nat} {v : Value} {C : List Value} (h : W.ownsRow B E k v n C) (kp : Kp N W W') (hn : ∀ i, v.ownBlock = some i → ¬ N i) : W'.ownsRow B E k v n C := by
  obtain ⟨hl, (h | ⟨g, cap, cur, rfl, hbg, hg, hr⟩)⟩ := h
  · exact ⟨hl, .inl h⟩
  · exact ⟨hl, .inr ⟨g, cap, cur, rfl, hbg, (kp.block g (Array.getElem?_eq_some_iff.1 hg).1 (hn g rfl)).trans hg, hr⟩⟩
theorem owns_form {W : World} {B E k n : Nat} {v : Value} {C : List Value} (h : W.ownsRow B E k v n C) : ∃ a c, v = .slice a n c := by
  obtain ⟨_, (⟨rfl, hn⟩ | ⟨g, cap, cur, rfl, _⟩)⟩ := h
  · exact ⟨none, 0, by rw [hn]⟩
  · exact ⟨_, _, rfl⟩

theorem owns_wk {W : World} {B B' E k n : Nat} {v : Value} {C : List Value} (h : W.ownsRow B E k v n C) (hb : B' ≤ B) : W.ownsRow B' E k v n C := by
  obtain ⟨h1, h2⟩ := h
  refine ⟨h1, ?_⟩
  rcases h2 with h2 | ⟨g, cap, cur, e, hbg, hg, hc1, hc2, hc3, hc4⟩
  · exact .inl h2
  · exact .inr ⟨g, cap, cur, e, Nat.le_trans hb hbg, hg, hc1, hc2, hc3, hc4⟩
theorem owns_some {W : World} {B E k n : Nat} {v : Value} {C : List Value} (h : W.ownsRow B E k v n C) (hn : 0 < n) : ∃ g c, v = .slice (some ⟨g, 0, none⟩) n c ∧ n ≤ c ∧ ∃ cur, Bx W g E cur := by
  obtain ⟨_, (⟨_, h0⟩ | ⟨g, cap, cur, e, _, hg, hc, _⟩)⟩ := h
  · omega
  · exact ⟨g, cap, e, hc, cur, hg⟩
/-- blocks of unlike types are apart -/
theorem Bx.apart {W : World} {a b : Nat} {s t : TypeId} {x y : Array Value} (h : Bx W a s x) (k : Bx W b t y) (e : s ≠ t) : a ≠ b := by
  rintro rfl
  have h1 : W.heap[a]? = some (.cells x s (0, 0)) := h
  have h2 : W.heap[a]? = some (.cells y t (0, 0)) := k
  rw [h1] at h2
  simp at h2
  exact e h2.2

theorem wpList_append_eq {w : World} {ops : Array Oper} {rest : List Oper} {o : Oper} {a : Act} {Q : Exit → Act → World → Prop} (hgd : o.guard = none) (s x : Operand) (t t' : TypeId)
    (ho : o.op = .call { callee := .builtin .append, args := #[s, x], argTypes := #[t, t'] }) (v u v' : Value) (w' : World) (hs : a.eval s = v) (hx : a.eval x = u) (hr : (Builtin.append_ #[t, t'] o.type #[v, u]).run Try.prog w = .ok v' w')
    (h : wpList Try.prog ops Q rest (a.put o.dst v') w') : wpList Try.prog ops Q (o :: rest) a w := by
  refine wpList_plain hgd fun K hK => ?_
  unfold Oper.wp execOp
  simp only [ho, resolve, invoke, builtin, Sem.run_bind, Sem.run_pure, Result.andThen_ok, List.map_toArray, List.map_cons, List.map_nil, hs, hx, hr]
  exact hK _ _ h
theorem wpList_delete_eq {w : World} {ops : Array Oper} {rest : List Oper} {o : Oper} {a : Act} {Q : Exit → Act → World → Prop} (hgd : o.guard = none) (s x : Operand) (t t' : TypeId)
    (ho : o.op = .call { callee := .builtin .delete, args := #[s, x], argTypes := #[t, t'] }) (v u v' : Value) (w' : World) (hs : a.eval s = v) (hx : a.eval x = u) (hr : (Builtin.delete_ #[t, t'] o.type #[v, u]).run Try.prog w = .ok v' w')
    (h : wpList Try.prog ops Q rest (a.put o.dst v') w') : wpList Try.prog ops Q (o :: rest) a w := by
  refine wpList_plain hgd fun K hK => ?_
  unfold Oper.wp execOp
  simp only [ho, resolve, invoke, builtin, Sem.run_bind, Sem.run_pure, Result.andThen_ok, List.map_toArray, List.map_cons, List.map_nil, hs, hx, hr]
  exact hK _ _ h
theorem wpList_clear_eq {w : World} {ops : Array Oper} {rest : List Oper} {o : Oper} {a : Act} {Q : Exit → Act → World → Prop} (hgd : o.guard = none) (s : Operand) (t : TypeId)
    (ho : o.op = .call { callee := .builtin .clear, args := #[s], argTypes := #[t] }) (v v' : Value) (w' : World) (hs : a.eval s = v) (hr : (Builtin.clear_ #[t] o.type #[v]).run Try.prog w = .ok v' w')
    (h : wpList Try.prog ops Q rest (a.put o.dst v') w') : wpList Try.prog ops Q (o :: rest) a w := by
  refine wpList_plain hgd fun K hK => ?_
  unfold Oper.wp execOp
  simp only [ho, resolve, invoke, builtin, Sem.run_bind, Sem.run_pure, Result.andThen_ok, List.map_toArray, List.map_cons, List.map_nil, hs, hr]
  exact hK _ _ h

def nC (l : List Int) : List Value := l.map fun x => Value.int .i64 x
theorem nC_len (l : List Int) : (nC l).length = l.length := by simp [nC]
theorem nC_app (l m : List Int) : nC (l ++ m) = nC l ++ nC m := by simp [nC]
/-- a row of numbers -/
def RN (W : World) (v : Value) (l : List Int) : Prop := RC W v l.length (nC l)
theorem RN.below {W W' : World} {v : Value} {l : List Int} (h : RN W v l) (hb : Below W.heap.size W W') : RN W' v l := RC.below h hb
theorem RN.form {W : World} {v : Value} {l : List Int} (h : RN W v l) : ∃ a c, v = .slice a l.length c := RC.form h
theorem RN.at {W : World} {a : Option Addr} {n c : Nat} {l : List Int} (h : RN W (.slice a n c) l) {i : Nat} {x : Int} (hi : l[i]? = some x) : ∃ b off, a = some ⟨b, off, none⟩ ∧ b < W.heap.size ∧ W.cell? ⟨b, off + i, none⟩ = some (.int .i64 x) := by
  have hl := (List.getElem?_eq_some_iff.1 hi).1
  rcases h with ⟨h0, _⟩ | ⟨b, off, cap, e, h1, h2, hc⟩
  · omega
  · simp at e
    obtain ⟨rfl, _⟩ := e
    exact ⟨b, off, rfl, h2, hc i _ (by simp [nC, hi])⟩
/-- a row of numbers of one's own -/
def OwN (W : World) (B : Nat) (v : Value) (l : List Int) : Prop := W.ownsRow B 3 1 v l.length (nC l)
theorem OwN.row {W : World} {B : Nat} {v : Value} {l : List Int} (h : OwN W B v l) : RN W v l := RC.of_owns h
theorem OwN.form {W : World} {B : Nat} {v : Value} {l : List Int} (h : OwN W B v l) : ∃ a c, v = .slice a l.length c := owns_form h
theorem infoN : (Try.prog.info? 3).map (fun i => (i.zero, i.size, i.bytes)) = some (some (.int .i64 0), 1, 8) := by kernel_rfl
/-- append(l, x) -/
theorem append_n (w : World) (ty : TypeId) (N : Nat) (v : Value) (l : List Int) (x : Int) (h : OwN w N v l) (hN : N ≤ w.heap.size) (hl : l.length ≤ 1000000) :
    ∃ v' w', (Builtin.append_ #[23, 23] ty #[v, .slice (some ⟨w.heap.size, 0, none⟩) 1 1]).run Try.prog (w.alloc (.cells #[.int .i64 x] 3)) = .ok v' w' ∧ OwN w' N v' (l ++ [x]) ∧ (w.alloc (.cells #[.int .i64 x] 3)).grownBy w' v.ownBlock ∧ (v'.ownBlock = v.ownBlock ∨ v'.ownBlock = some (w.heap.size + 1)) := by
  obtain ⟨i0, hi, hz0, hz1, hz2⟩ := info_parts infoN
  have hbx := Bx.new w 3 #[.int .i64 x]
  obtain ⟨v', w', h1, h2, h3, h4, h5⟩ := run_append_own_at (P := Try.prog) (w.alloc (.cells #[.int .i64 x] 3)) N 23 ty 3 i0 _ 1 8 Try.underlying23 hi hz0 hz1 hz2 rfl (by decide) v l.length _ (World.ownsRow.alloc h _) ⟨w.heap.size, 0, none⟩ 1 1 [.int .i64 x] rfl (fun j u hu => by
    rw [Addr.add_lit, Nat.zero_add]
    exact hbx.cell j u (by rw [← hu]; simp)) (fun u hu => by
      simp at hu
      subst hu
      rfl) (by unfold maxLen; omega) (by omega) (by simp; omega)
  refine ⟨v', w', h1, ?_, h3, ?_⟩
  · unfold OwN
    rw [nC_app, List.length_append]
    exact h2
  · simpa using h5

end Go.Proofs.Ytmglnaldpcmakaa
