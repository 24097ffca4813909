/-
  Two Writers and two of the document's, beside each other in memory.
-/
import Derived.Test.YtnellneckbilaaaZLY
set_option linter.unusedSimpArgs false
set_option linter.unusedVariables false
namespace Go.Proofs.Ytnellneckbilaaa
open Go.RowKit Go.Lib

structure LSt (w W : World) (p1 p2 q1 q2 : Nat) (v1 v2 u1 u2 : Value) (s1 s2 t1 t2 : List Nat × Int) : Prop where
  a1 : Wr W p1 v1 s1.1 s1.2
  a2 : Wr W p2 v2 s2.1 s2.2
  b1 : Bx W q1 54 #[u1, .int .i64 t1.2]
  b2 : Bx W q2 54 #[u2, .int .i64 t2.2]
  r1 : RC W u1 t1.1.length (bC t1.1)
  r2 : RC W u2 t2.1.length (bC t2.1)
  bel : Below w.heap.size w W
  np : w.heap.size ≤ p1 ∧ w.heap.size ≤ p2 ∧ w.heap.size ≤ q1 ∧ w.heap.size ≤ q2 ∧ p1 ≠ p2 ∧ p1 ≠ q1 ∧ p1 ≠ q2 ∧ p2 ≠ q1 ∧ p2 ≠ q2 ∧ q1 ≠ q2
  o1 : ∀ k, v1.ownBlock = some k → w.heap.size ≤ k ∧ k ≠ p2 ∧ k ≠ q1 ∧ k ≠ q2 ∧ v2.ownBlock ≠ some k ∧ u1.ownBlock ≠ some k ∧ u2.ownBlock ≠ some k
  o2 : ∀ k, v2.ownBlock = some k → w.heap.size ≤ k ∧ k ≠ p1 ∧ k ≠ q2 ∧ k ≠ q1 ∧ v1.ownBlock ≠ some k ∧ u2.ownBlock ≠ some k ∧ u1.ownBlock ≠ some k
  o3 : ∀ k, u1.ownBlock = some k → k < W.heap.size ∧ k ≠ p1 ∧ k ≠ p2 ∧ k ≠ q1 ∧ k ≠ q2
  o4 : ∀ k, u2.ownBlock = some k → k < W.heap.size ∧ k ≠ p2 ∧ k ≠ p1 ∧ k ≠ q2 ∧ k ≠ q1

theorem LSt.swap {w W : World} {p1 p2 q1 q2 : Nat} {v1 v2 u1 u2 : Value} {s1 s2 t1 t2 : List Nat × Int} (h : LSt w W p1 p2 q1 q2 v1 v2 u1 u2 s1 s2 t1 t2) : LSt w W p2 p1 q2 q1 v2 v1 u2 u1 s2 s1 t2 t1 := by
  obtain ⟨n1, n2, n3, n4, n5, n6, n7, n8, n9, n10⟩ := h.np
  exact ⟨h.a2, h.a1, h.b2, h.b1, h.r2, h.r1, h.bel, ⟨n2, n1, n4, n3, n5.symm, n9, n8, n7, n6, n10.symm⟩, h.o2, h.o1, h.o4, h.o3⟩

theorem LSt.below {w W W' : World} {p1 p2 q1 q2 : Nat} {v1 v2 u1 u2 : Value} {s1 s2 t1 t2 : List Nat × Int} (h : LSt w W p1 p2 q1 q2 v1 v2 u1 u2 s1 s2 t1 t2) (hb : Below W.heap.size W W') : LSt w W' p1 p2 q1 q2 v1 v2 u1 u2 s1 s2 t1 t2 :=
  ⟨h.a1.below hb, h.a2.below hb, h.b1.below hb, h.b2.below hb, h.r1.below hb, h.r2.below hb, bnext h.bel hb, h.np, h.o1, h.o2,
   fun k hk => ⟨Nat.lt_of_lt_of_le (h.o3 k hk).1 hb.size, (h.o3 k hk).2⟩, fun k hk => ⟨Nat.lt_of_lt_of_le (h.o4 k hk).1 hb.size, (h.o4 k hk).2⟩⟩

theorem LSt.lay {w W W' : World} {p1 p2 q1 q2 : Nat} {v1 v2 u1 u2 v1' : Value} {s1 s2 t1 t2 s1' : List Nat × Int} (h : LSt w W p1 p2 q1 q2 v1 v2 u1 u2 s1 s2 t1 t2) (hw : Wr W' p1 v1' s1'.1 s1'.2) (k : Kp (wOwn p1 v1) W W') (ho : OwnAt W v1 v1') : LSt w W' p1 p2 q1 q2 v1' v2 u1 u2 s1' s2 t1 t2 := by
  obtain ⟨n1, n2, n3, n4, n5, n6, n7, n8, n9, n10⟩ := h.np
  have np2 : ¬ wOwn p1 v1 p2 := fun e => e.elim (fun e => n5 e.symm) (fun e => (h.o1 _ e).2.1 rfl)
  have nq1 : ¬ wOwn p1 v1 q1 := fun e => e.elim (fun e => n6 e.symm) (fun e => (h.o1 _ e).2.2.1 rfl)
  have nq2 : ¬ wOwn p1 v1 q2 := fun e => e.elim (fun e => n7 e.symm) (fun e => (h.o1 _ e).2.2.2.1 rfl)
  have l2 := h.a2.box.lt
  have l3 := h.b1.lt
  have l4 := h.b2.lt
  have hs := h.bel.size
  refine ⟨hw, h.a2.kp k np2 ?_, h.b1.kp k nq1, h.b2.kp k nq2, h.r1.kp k ?_, h.r2.kp k ?_, k.below h.bel ?_, h.np, ?_, ?_, ?_, ?_⟩
  · intro i hi e
    rcases e with e | e
    · exact (h.o2 i hi).2.1 e
    · exact (h.o1 i e).2.2.2.2.1 hi
  · intro i hi e
    rcases e with e | e
    · exact (h.o3 i hi).2.1 e
    · exact (h.o1 i e).2.2.2.2.2.1 hi
  · intro i hi e
    rcases e with e | e
    · exact (h.o4 i hi).2.2.1 e
    · exact (h.o1 i e).2.2.2.2.2.2 hi
  · intro i e
    rcases e with e | e
    · rw [e]; exact n1
    · exact (h.o1 i e).1
  · intro i hi
    rcases ho i hi with e | e
    · exact h.o1 i e
    · refine ⟨by omega, by omega, by omega, by omega, fun e2 => ?_, fun e2 => ?_, fun e2 => ?_⟩
      · have := (h.a2.row.lt i e2).2; omega
      · have := (h.o3 i e2).1; omega
      · have := (h.o4 i e2).1; omega
  · intro i hi
    obtain ⟨m1, m2, m3, m4, m5, m6⟩ := h.o2 i hi
    refine ⟨m1, m2, m3, m4, fun e => ?_, m6⟩
    rcases ho i e with e | e
    · exact m5 e
    · have := (h.a2.row.lt i hi).2; omega
  · exact fun i hi => ⟨Nat.lt_of_lt_of_le (h.o3 i hi).1 k.size, (h.o3 i hi).2⟩
  · exact fun i hi => ⟨Nat.lt_of_lt_of_le (h.o4 i hi).1 k.size, (h.o4 i hi).2⟩

theorem LSt.store {w W W' : World} {p1 p2 q1 q2 : Nat} {v1 v2 u1 u2 u1' : Value} {s1 s2 t1 t2 t1' : List Nat × Int} (h : LSt w W p1 p2 q1 q2 v1 v2 u1 u2 s1 s2 t1 t2) (hb : Below W.heap.size W W') (hr : RC W' u1' t1'.1.length (bC t1'.1)) (hf : Frv W W' u1 u1') :
    LSt w ((W'.setCell ⟨q1, 0, none⟩ u1').setCell ⟨q1, 1, none⟩ (.int .i64 t1'.2)) p1 p2 q1 q2 v1 v2 u1' u2 s1 s2 t1' t2 := by
  have h0 := h
  have l1 := h.a1.row.lt
  have l2 := h.a2.row.lt
  have lq := h.b1.lt
  have lp1 := h.a1.box.lt
  have lp2 := h.a2.box.lt
  have lq2 := h.b2.lt
  replace h := h.below hb
  obtain ⟨n1, n2, n3, n4, n5, n6, n7, n8, n9, n10⟩ := h.np
  have k1 := Kp.set (N := fun k => k = q1) W' ⟨q1, 0, none⟩ u1' rfl
  have k2 := Kp.set (N := fun k => k = q1) (W'.setCell ⟨q1, 0, none⟩ u1') ⟨q1, 1, none⟩ (.int .i64 t1'.2) rfl
  have k := k1.trans k2 (fun i h => .inl h)
  have hsz : ((W'.setCell ⟨q1, 0, none⟩ u1').setCell ⟨q1, 1, none⟩ (.int .i64 t1'.2)).heap.size = W'.heap.size := by simp
  have hu : ∀ i, u1'.ownBlock = some i → i < W'.heap.size ∧ i ≠ p1 ∧ i ≠ p2 ∧ i ≠ q1 ∧ i ≠ q2 := fun i hi => by
    rcases hf i hi with e | e
    · exact h.o3 i e
    · exact ⟨e.2, by omega, by omega, by omega, by omega⟩
  refine ⟨h.a1.kp k n6 (fun i hi => (h.o1 i hi).2.2.1), h.a2.kp k n8 (fun i hi => (h.o2 i hi).2.2.2.1), by simpa using (h.b1.set 0 u1').set 1 (.int .i64 t1'.2), h.b2.kp k (fun e => n10 e.symm), hr.kp k (fun i hi => (hu i hi).2.2.2.1), h.r2.kp k (fun i hi => (h.o4 i hi).2.2.2.2), k.below h.bel (fun i hi => by rw [hi]; exact n3), h.np, ?_, ?_, ?_, ?_⟩
  · intro i hi
    obtain ⟨m1, m2, m3, m4, m5, m6, m7⟩ := h.o1 i hi
    refine ⟨m1, m2, m3, m4, m5, fun e => ?_, m7⟩
    rcases hf i e with e | e
    · exact m6 e
    · have := (l1 i hi).2; omega
  · intro i hi
    obtain ⟨m1, m2, m3, m4, m5, m6, m7⟩ := h.o2 i hi
    refine ⟨m1, m2, m3, m4, m5, m6, fun e => ?_⟩
    rcases hf i e with e | e
    · exact m7 e
    · have := (l2 i hi).2; omega
  · exact fun i hi => by rw [hsz]; exact hu i hi
  · exact fun i hi => by rw [hsz]; exact h.o4 i hi

/-- what is laid behind so many items -/
def wAll (l : List (Bool × Int × ByteArray)) (i : Nat) : List Nat × Int := (l.take i).foldl wItm ([], 0)
theorem wAll_step {l : List (Bool × Int × ByteArray)} {i : Nat} {x : Bool × Int × ByteArray} (h : l[i]? = some x) : wAll l (i + 1) = wItm (wAll l i) x := by
  unfold wAll
  rw [List.take_add_one, h, List.foldl_append]
  rfl
theorem wAll_over {l : List (Bool × Int × ByteArray)} {i : Nat} (h : l.length ≤ i) : wAll l (i + 1) = wAll l i := by
  unfold wAll
  rw [List.take_of_length_le (by omega), List.take_of_length_le h]
set_option maxRecDepth 100000 in
theorem wAll_len {l : List (Bool × Int × ByteArray)} (hl : ∀ x ∈ l, x.2.2.size ≤ 50000) (i : Nat) : (wAll l i).1.length ≤ i * 50011 := by
  induction i with
  | zero => simp [wAll]
  | succ i ih =>
    by_cases hi : i < l.length
    · rw [wAll_step (List.getElem?_eq_getElem hi)]
      have h3 := wItm_len (wAll l i) l[i] (hl _ (List.getElem_mem hi))
      exact Nat.le_trans h3 (by rw [Nat.succ_mul]; exact Nat.add_le_add_right ih _)
    · rw [wAll_over (by omega)]
      exact Nat.le_trans ih (Nat.mul_le_mul_right _ (Nat.le_succ _))

theorem LSt.new (w : World) : LSt w ((((w.alloc (.cells #[.slice none 0 0, .int .i64 0] 52)).alloc (.cells #[.slice none 0 0, .int .i64 0] 52)).alloc (.cells #[.slice none 0 0, .int .i64 0] 54)).alloc (.cells #[.slice none 0 0, .int .i64 0] 54)) w.heap.size (w.heap.size + 1) (w.heap.size + 2) (w.heap.size + 3) (.slice none 0 0) (.slice none 0 0) (.slice none 0 0) (.slice none 0 0) ([], 0) ([], 0) ([], 0) ([], 0) := by
  have c1 := Wr.new w
  have c2 := Wr.new (w.alloc (.cells #[.slice none 0 0, .int .i64 0] 52))
  have c3 := Bx.new ((w.alloc (.cells #[.slice none 0 0, .int .i64 0] 52)).alloc (.cells #[.slice none 0 0, .int .i64 0] 52)) 54 #[.slice none 0 0, .int .i64 0]
  have c4 := Bx.new (((w.alloc (.cells #[.slice none 0 0, .int .i64 0] 52)).alloc (.cells #[.slice none 0 0, .int .i64 0] 52)).alloc (.cells #[.slice none 0 0, .int .i64 0] 54)) 54 #[.slice none 0 0, .int .i64 0]
  simp only [show (w.alloc (.cells #[.slice none 0 0, .int .i64 0] 52)).heap.size = w.heap.size + 1 by simp] at c2
  simp only [show ((w.alloc (.cells #[.slice none 0 0, .int .i64 0] 52)).alloc (.cells #[.slice none 0 0, .int .i64 0] 52)).heap.size = w.heap.size + 2 by simp] at c3
  simp only [show (((w.alloc (.cells #[.slice none 0 0, .int .i64 0] 52)).alloc (.cells #[.slice none 0 0, .int .i64 0] 52)).alloc (.cells #[.slice none 0 0, .int .i64 0] 54)).heap.size = w.heap.size + 3 by simp] at c4
  have bb := fun (X : World) (o : Obj) => ballc (Below.refl _ X) o
  refine ⟨((c1.below (bb _ _)).below (bb _ _)).below (bb _ _), (c2.below (bb _ _)).below (bb _ _), c3.below (bb _ _), c4, RC.nil _ _ _, RC.nil _ _ _, ballc (ballc (ballc (ballc (Below.refl _ _) _) _) _) _, by omega, ?_, ?_, ?_, ?_⟩ <;> (intro k hk; cases hk)

end Go.Proofs.Ytnellneckbilaaa
