/-
  place.New.
-/
import Derived.Test.YtiakhpfljjfaeaaZSq2
import Derived.Test.YtiakhpfljjfaeaaZCCnt
import Derived.Test.YtiakhpfljjfaeaaZCnt
import Derived.Test.YtiakhpfljjfaeaaZXReg
import Derived.Test.YtiakhpfljjfaeaaZXMap
import Derived.Test.YtiakhpfljjfaeaaZXPlace
set_option linter.unusedSimpArgs false
set_option linter.unusedVariables false
namespace Go.Proofs.Ytiakhpfljjfaeaa
open Go.RowKit Go.Lib Go.Shelf

attribute [local go_sem] Oper.semAt_some

theorem infoSpot : (Try.prog.info? 29).map (fun i => (i.zero, i.size, i.bytes)) = some (some (.agg #[.int .i64 0, .int .i64 0, .int .i64 0, .int .i64 0, .int .i64 0, .int .i64 0]), 6, 48) := by kernel_rfl

theorem heap_set {W : World} {B : Nat} {cs : Array Value} {t : TypeId} (j : Nat) (u : Value) (h : W.heap[B]? = some (.cells cs t (0, 0))) : (W.setCell ⟨B, j, none⟩ u).heap[B]? = some (.cells (cs.setIfInBounds j u) t (0, 0)) := by
  obtain ⟨hlt, hk⟩ := Array.getElem?_eq_some_iff.1 h
  show (W.heap.modify B _)[B]? = _
  rw [Array.getElem?_eq_getElem (by rw [Array.size_modify]; exact hlt), Array.getElem_modify_self, hk]
  rfl
theorem grown_set (W : World) (b j : Nat) (v : Value) : W.grownBy (W.setCell ⟨b, j, none⟩ v) (some b) :=
  ⟨rfl, rfl, rfl, (KeepsWalks.setCell W _ v).size, fun k _ hk => Below.heap_setCell _ _ _ k (fun e => hk (by rw [e]))⟩
/-- six numbers written -/
def set6 (W : World) (b : Nat) (u0 u1 u2 u3 u4 u5 : Value) : World := (((((W.setCell ⟨b, 0, none⟩ u0).setCell ⟨b, 1, none⟩ u1).setCell ⟨b, 2, none⟩ u2).setCell ⟨b, 3, none⟩ u3).setCell ⟨b, 4, none⟩ u4).setCell ⟨b, 5, none⟩ u5
theorem Box6.set6 {W : World} {b : Nat} {v0 v1 v2 v3 v4 v5 : Value} (h : Box6 W b v0 v1 v2 v3 v4 v5) (u0 u1 u2 u3 u4 u5 : Value) : Box6 (set6 W b u0 u1 u2 u3 u4 u5) b u0 u1 u2 u3 u4 u5 :=
  heap_set 5 u5 (heap_set 4 u4 (heap_set 3 u3 (heap_set 2 u2 (heap_set 1 u1 (heap_set 0 u0 h)))))
theorem Box6.set0 {W : World} {b : Nat} {v0 v1 v2 v3 v4 v5 : Value} (h : Box6 W b v0 v1 v2 v3 v4 v5) (u : Value) : Box6 (W.setCell ⟨b, 0, none⟩ u) b u v1 v2 v3 v4 v5 := heap_set 0 u h
theorem Box6.set3 {W : World} {b : Nat} {v0 v1 v2 v3 v4 v5 : Value} (h : Box6 W b v0 v1 v2 v3 v4 v5) (u : Value) : Box6 (W.setCell ⟨b, 3, none⟩ u) b v0 v1 v2 u v4 v5 := heap_set 3 u h
theorem grown_trans {A B C : World} {r : Nat} (h : A.grownBy B (some r)) (k : B.grownBy C (some r)) : A.grownBy C (some r) :=
  ⟨k.os.trans h.os, k.tape.trans h.tape, k.output.trans h.output, Nat.le_trans h.size k.size, fun i hi hne => (k.block i (Nat.lt_of_lt_of_le hi h.size) hne).trans (h.block i hi hne)⟩
theorem grown_set6 (W : World) (b : Nat) (u0 u1 u2 u3 u4 u5 : Value) : W.grownBy (set6 W b u0 u1 u2 u3 u4 u5) (some b) :=
  grown_trans (grown_trans (grown_trans (grown_trans (grown_trans (grown_set W b 0 u0) (grown_set _ b 1 u1)) (grown_set _ b 2 u2)) (grown_set _ b 3 u3)) (grown_set _ b 4 u4)) (grown_set _ b 5 u5)

theorem new_six (W : World) (c0 c1 c2 c3 c4 c5 : Value) (t : TypeId) : ∀ j u, ([c0, c1, c2, c3, c4, c5] : List Value)[j]? = some u → (W.alloc (.cells #[c0, c1, c2, c3, c4, c5] t)).cell? ((⟨W.heap.size, 0, none⟩ : Addr).add j) = some u := by
  intro j u h
  match j, h with
  | 0, h => simp at h; subst h; simp [go_sem, Addr.add]
  | 1, h => simp at h; subst h; simp [go_sem, Addr.add]
  | 2, h => simp at h; subst h; simp [go_sem, Addr.add]
  | 3, h => simp at h; subst h; simp [go_sem, Addr.add]
  | 4, h => simp at h; subst h; simp [go_sem, Addr.add]
  | 5, h => simp at h; subst h; simp [go_sem, Addr.add]
  | j + 6, h => simp at h
theorem run_append {P : Program} {o : Oper} {ρ : Operand → Value} {w : World} {v' : Value} {w' : World} (s x : Operand) (t : TypeId)
    (ho : o.op = .call { callee := .builtin .append, args := #[s, x], argTypes := #[t, t] }) {v u : Value} (hs : ρ s = v) (hx : ρ x = u) (hr : (Builtin.append_ #[t, t] o.type #[v, u]).run P w = .ok v' w') : (execOp ρ o).run P w = .ok (.value v') w' := by
  unfold execOp
  simp only [ho, resolve, invoke, builtin, Sem.run_bind, Sem.run_pure, Result.andThen_ok, List.map_toArray, List.map_cons, List.map_nil, hs, hx, hr]

/-- the cells of the rows of the first places behind the beginning -/
def spF (s : ByteArray) (n : Nat) : List Value := (List.range n).flatMap fun i => spC s (i + 1)
theorem spF_succ (s : ByteArray) (n : Nat) : spF s (n + 1) = spF s n ++ spC s (n + 1) := by
  unfold spF; rw [List.range_succ, List.flatMap_append]; simp
theorem spF_length (s : ByteArray) : ∀ n, (spF s n).length = n * 6
  | 0 => rfl
  | n + 1 => by rw [spF_succ, List.length_append, spF_length s n]; simp [spC]; omega
theorem spF_get (s : ByteArray) (j : Nat) (hj : j < 6) : ∀ (N n : Nat), n < N → (spF s N)[n * 6 + j]? = (spC s (n + 1))[j]?
  | 0, n, h => by omega
  | N + 1, n, h => by
    rw [spF_succ]
    rcases (by omega : n < N ∨ n = N) with h1 | h1
    · rw [List.getElem?_append_left (by rw [spF_length]; omega)]; exact spF_get s j hj N n h1
    · subst h1
      rw [List.getElem?_append_right (by rw [spF_length]; omega), spF_length]; congr 1; omega

/-- all that New holds: the text, the map's pointer, the spot reached, the map, its rows -/
structure NSx (s : ByteArray) (bt bm bh p g n : Nat) (v0 v1 v2 v3 v4 v5 : Value) (W : World) : Prop where
  t : Boxed W bt 9 (.string s)
  m : Boxed W bm 23 (.pointer (some ⟨p, 0, none⟩))
  h : Box6 W bh v0 v1 v2 v3 v4 v5
  p : W.heap[p]? = some (.cells #[.string s, .slice (some ⟨g, 0, none⟩) n (pN s)] 38 (0, 0))
  g : W.ownsRow 0 29 6 (.slice (some ⟨g, 0, none⟩) n (pN s)) n (spF s n)
abbrev NSt (s : ByteArray) (bt bm bh p g n : Nat) (W : World) : Prop := NSx s bt bm bh p g n (.int .i64 (pB s n : Nat)) (.int .i64 (n : Nat)) (.int .i64 (pU s n : Nat)) (.int .i64 (pC s n : Nat)) (.int .i64 (pL s n : Nat)) (.int .i64 (pK s n : Nat)) W
theorem NSx.kept {s : ByteArray} {bt bm bh p g n : Nat} {v0 v1 v2 v3 v4 v5 : Value} {W W' : World} {row : Option Nat} (h : NSx s bt bm bh p g n v0 v1 v2 v3 v4 v5 W) (hg : W.grownBy W' row) (hr : ∀ r, row = some r → r ≠ bt ∧ r ≠ bm ∧ r ≠ bh ∧ r ≠ p ∧ r ≠ g) : NSx s bt bm bh p g n v0 v1 v2 v3 v4 v5 W' := by
  refine ⟨h.t.kept hg (fun e => (hr _ e.symm).1 rfl), h.m.kept hg (fun e => (hr _ e.symm).2.1 rfl), (hg.block _ h.h.lt (fun e => (hr _ e.symm).2.2.1 rfl)).trans h.h, (hg.block _ (Array.getElem?_eq_some_iff.1 h.p).1 (fun e => (hr _ e.symm).2.2.2.1 rfl)).trans h.p, h.g.kept hg ?_⟩
  exact .inr (fun e => (hr g (by simpa [Value.ownBlock] using e.symm)).2.2.2.2 rfl)
theorem NSx.here {s : ByteArray} {bt bm bh p g n : Nat} {v0 v1 v2 v3 v4 v5 u0 u1 u2 u3 u4 u5 : Value} {W W' : World} (h : NSx s bt bm bh p g n v0 v1 v2 v3 v4 v5 W) (hg : W.grownBy W' (some bh)) (hr : bh ≠ bt ∧ bh ≠ bm ∧ bh ≠ p ∧ bh ≠ g) (h6 : Box6 W' bh u0 u1 u2 u3 u4 u5) : NSx s bt bm bh p g n u0 u1 u2 u3 u4 u5 W' := by
  refine ⟨h.t.kept hg (fun e => hr.1 (Option.some.inj e).symm), h.m.kept hg (fun e => hr.2.1 (Option.some.inj e).symm), h6, (hg.block _ (Array.getElem?_eq_some_iff.1 h.p).1 (fun e => hr.2.2.1 (Option.some.inj e).symm)).trans h.p, h.g.kept hg ?_⟩
  exact .inr (fun e => hr.2.2.2 (Option.some.inj (by simpa [Value.ownBlock] using e)).symm)

/-- only three blocks are turned -/
def KQ (bh p g : Nat) (V V' : World) : Prop := ∀ B T Bs : Nat, (bh < B ∧ p < B ∧ g < B) → (Bs ≠ bh ∧ Bs ≠ p ∧ Bs ≠ g) → KO B T Bs V V'
theorem KQ.trans {bh p g : Nat} {A B C : World} (h : KQ bh p g A B) (k : KQ bh p g B C) : KQ bh p g A C := fun b t bs h1 h2 => (h b t bs h1 h2).trans (k b t bs h1 h2)
theorem KQ.below {bh p g : Nat} {A B : World} (h : Below A.heap.size A B) : KQ bh p g A B := fun _ _ _ _ _ => KO.of_below h
theorem KQ.grown {bh p g r : Nat} {A B : World} (hg : A.grownBy B (some r)) (hr : r = bh ∨ r = p ∨ r = g) (hw : ∀ o : Obj, A.heap[r]? = some o → o.isWalk = false) : KQ bh p g A B := fun b t bs h1 h2 => KO.grown hg (.inl (by omega)) (by rcases hr with rfl | rfl | rfl; exact h2.1; exact h2.2.1; exact h2.2.2) hw
theorem cells_nowalk {A : World} {r : Nat} {cs : Array Value} {t : TypeId} (h : A.heap[r]? = some (.cells cs t (0, 0))) : ∀ o : Obj, A.heap[r]? = some o → o.isWalk = false := fun o ho => by rw [h] at ho; cases ho; rfl

theorem grown_below {W W' : World} (h : Below W.heap.size W W') : W.grownBy W' none := ⟨h.os, h.tape, h.output, h.size, fun k hk _ => h.block k hk⟩
theorem NSx.map {s : ByteArray} {bt bm bh p g : Nat} {v0 v1 v2 v3 v4 v5 : Value} {W : World} (h : NSx s bt bm bh p g (pN s) v0 v1 v2 v3 v4 v5 W) : MapAt s p W := by
  refine ⟨by simp [World.cell?, h.p], _, by simp [World.cell?, h.p], .inr ⟨g, pN s, rfl, fun n hn j u hu => ?_⟩⟩
  have hj : j < 6 := by have := (List.getElem?_eq_some_iff.1 hu).1; simpa [spC] using this
  rw [h.g.cellAt (n * 6 + j) (by omega), spF_get s j hj _ n hn, hu]

/-- a new map's row, and the map -/
def mkRow (s : ByteArray) (lo : Nat) (W : World) (g : Nat) : Prop := lo ≤ g ∧ W.ownsRow 0 29 6 (.slice (some ⟨g, 0, none⟩) 0 (pN s)) 0 []
def mkMap (s : ByteArray) (lo : Nat) (W : World) (p g : Nat) : Prop := lo ≤ p ∧ W.heap[p]? = some (.cells #[.string s, .slice (some ⟨g, 0, none⟩) 0 (pN s)] 38 (0, 0)) ∧ mkRow s lo W g
theorem mkRow.below {s : ByteArray} {lo g : Nat} {W W' : World} (h : mkRow s lo W g) (hb : Below W.heap.size W W') : mkRow s lo W' g := ⟨h.1, owns_below h.2 hb⟩
theorem mkMap.below {s : ByteArray} {lo p g : Nat} {W W' : World} (h : mkMap s lo W p g) (hb : Below W.heap.size W W') : mkMap s lo W' p g := ⟨h.1, (hb.block _ (Array.getElem?_eq_some_iff.1 h.2.1).1).trans h.2.1, h.2.2.below hb⟩

theorem map_put {s : ByteArray} {p D : Nat} {W : World} {o o' : Obj} (h : MapAt s p W) (hD : W.heap[D]? = some o) (hn : o.isCells = false) : MapAt s p (W.putObj D o') := by
  have key : ∀ {a : Addr} {v : Value}, W.cell? a = some v → (W.putObj D o').cell? a = some v := by
    intro a v hc
    have hne : a.block ≠ D := by
      intro e
      unfold World.cell? at hc
      rw [e, hD] at hc
      cases o <;> simp_all [Obj.isCells]
    rw [← hc]
    unfold World.cell?
    rw [World.putObj_heap_other hne]
  obtain ⟨h1, sl, h2, h3⟩ := h
  refine ⟨key h1, sl, key h2, ?_⟩
  rcases h3 with h3 | ⟨g, cap, e, h3⟩
  · exact .inl h3
  · exact .inr ⟨g, cap, e, fun n hn j u hu => key (h3 n hn j u hu)⟩

set_option maxHeartbeats 1000000 in
theorem spot0_in (a : Option Addr) (w : World) : Calls Try.prog 18 #[.pointer a, .int .i64 0] w fun e w' => e = .returned (.agg #[.int .i64 0, .int .i64 0, .int .i64 0, .int .i64 0, .int .i64 1, .int .i64 1]) ∧ Below w.heap.size w w' := by
  go_enter Try.func18, Try.ntmps18
  go_wp2
  refine bodyPost_ret (v := .agg #[.int .i64 0, .int .i64 0, .int .i64 0, .int .i64 0, .int .i64 1, .int .i64 1]) ?_ rfl ⟨rfl, ?_⟩
  · simp [results, Try.f18, go_sem]
  · exact ((Below.refl _ w).alloc (Nat.le_refl _) _)

set_option maxRecDepth 100000 in
set_option maxHeartbeats 4000000 in
theorem new_in (s : ByteArray) (hs : s.size ≤ 1000000) (w : World) :
    Calls Try.prog 8 #[.string s] w fun e W' => ∃ p, e = .returned (.pointer (some ⟨p, 0, none⟩)) ∧ MapAt s p W' ∧ Below w.heap.size w W' := by
  obtain ⟨i0, hi, hz0, hz1, hz2⟩ := info_parts infoSpot
  have hN := pN_le s
  refine (callsIn_wide (n := 6)).1 ?_
  refine callsIn_of_wp_marks Try.func8 rfl trivial ?_ rfl
  simp only [Try.ntmps8, List.size_toArray, List.length_cons, List.length_nil, Nat.reduceAdd, Nat.reduceSub, Array.replicate_succ, Array.replicate_zero, List.push_toArray, List.append_toArray, List.nil_append, List.cons_append]
  gi_wp2_with fail
  have bT := Boxed.new w 9 (.string s)
  have hB1 : Below w.heap.size w (w.alloc (.cells #[.string s] 9)) := (Below.refl _ w).alloc (Nat.le_refl _) _
  have hsz1 : (w.alloc (.cells #[.string s] 9)).heap.size = w.heap.size + 1 := by simp
  generalize w.alloc (.cells #[.string s] 9) = W1 at bT hB1 hsz1 ⊢
  refine wpIn_region_any (by kernel_rfl) ?_
  change wpAnyIn _ _ _ _ _ _ _ _ _ (World.drew _)
  refine region_st (fun _ => trivial) rfl 70 (fun j => if j = 6 then 3 else 12 + j) [(0, (.string s)), (1, (.pointer (some ⟨w.heap.size, 0, none⟩))), (2, (.pointer none)), (4, undef), (5, undef), (6, undef), (7, undef), (8, undef), (9, undef), (10, undef), (11, undef), (18, undef), (19, undef), (20, undef), (21, undef), (22, undef), (23, undef), (24, undef), (25, undef), (26, undef), (27, undef), (28, undef), (29, undef), (30, undef), (31, undef), (32, undef), (33, undef), (34, undef), (35, undef), (36, undef), (37, undef), (38, undef), (39, undef), (40, undef), (41, undef), (42, undef), (43, undef), (44, undef), (45, undef), (46, undef), (47, undef), (48, undef), (49, undef), (50, undef), (51, undef), (52, undef), (53, undef), (54, undef), (55, undef), (56, undef), (57, undef), (58, undef), (59, undef), (60, undef), (61, undef), (62, undef), (63, undef), (64, undef), (65, undef), (66, undef), (67, undef), (68, undef), (69, undef)]
    (fun _ W => Below W1.heap.size W1 W)
    (valsOf [isV (.string s), isV (.string s), isV (.int .i64 (pN s : Nat)), (fun W v => ∃ g, v = .slice (some ⟨g, 0, none⟩) 0 (pN s) ∧ mkRow s W1.heap.size W g), (fun W v => ∃ g, v = .agg #[.string s, .slice (some ⟨g, 0, none⟩) 0 (pN s)] ∧ mkRow s W1.heap.size W g), (fun W v => ∃ p g, v = .pointer (some ⟨p, 0, none⟩) ∧ mkMap s W1.heap.size W p g), (fun W v => ∃ m, v = .pointer (some ⟨m, 0, none⟩) ∧ W1.heap.size ≤ m ∧ Boxed W m 23 (.pointer none))])
    (fun w w' => Below w.heap.size w w') [] ?pos ?fit ?last (fun j f => valsOf_stable (Stables.all ?stable) j) ?steps 23 (.tmp 3) (.tmp 17) rfl ?fin _ _ ?sz rfl ?base ?start
  case pos => decide
  case fit => kernel_rfl
  case last => kernel_rfl
  case sz => rfl
  case base => intro p hp; repeat (first | (rcases List.mem_cons.1 hp with rfl | hp; · rfl) | cases hp)
  case start => exact (Below.refl _ _).drew
  case stable =>
    refine .same (.same (.same (.other ?_ (.other ?_ (.other ?_ (.other ?_ .nil))))))
    · rintro A B v _ ⟨g, e, h⟩ hb; exact ⟨g, e, h.below hb⟩
    · rintro A B v _ ⟨g, e, h⟩ hb; exact ⟨g, e, h.below hb⟩
    · rintro A B v _ ⟨p, g, e, h⟩ hb; exact ⟨p, g, e, h.below hb⟩
    · rintro A B v _ ⟨m, e, h1, h2⟩ hb; exact ⟨m, e, h1, boxed_below h2 hb⟩
  case steps =>
    refine .cons (fun hlt f ρ wz hno hyes hρ hJ hb hd => by
      have d0 := hb (1, _) (List.mem_of_getElem? (i := 1) rfl)
      have c1 := (boxed_below bT hJ).cell
      exact stepIn_val (v := .string s) (w' := wz) (fun c e => by cases e) (by simp [go_sem, execOp, d0, c1]) ⟨Below.refl _ _, hJ, rfl⟩) ?_
    refine .cons (fun hlt f ρ wz hno hyes hρ hJ hb hd => by
      have d0 := hb (1, _) (List.mem_of_getElem? (i := 1) rfl)
      have c1 := (boxed_below bT hJ).cell
      exact stepIn_val (v := .string s) (w' := wz) (fun c e => by cases e) (by simp [go_sem, execOp, d0, c1]) ⟨Below.refl _ _, hJ, rfl⟩) ?_
    refine .cons (fun hlt f ρ wz hno hyes hρ hJ hb hd => by
      have d0 : ρ (.tmp 13) = .string s := hd 0 _ rfl rfl
      refine stepIn_func 17 _ _ #[.string s] hρ rfl (enters_of Try.func17 (by kernel_rfl) rfl) (by simp [d0]) (callsIn_wide.2 ((count_in s (by omega) wz).mono ?_))
      rintro e w2 ⟨rfl, hb2⟩
      exact ⟨_, rfl, hb2, bnext hJ hb2, rfl⟩) ?_
    refine .cons (fun hlt f ρ wz hno hyes hρ hJ hb hd => by
      have d0 : ρ (.tmp 14) = .int .i64 (pN s : Nat) := hd 0 _ rfl rfl
      obtain ⟨w', hrun, r1, r2⟩ := run_make_own (P := Try.prog) wz 0 36 29 i0 _ 6 Try.underlying36 hi hz0 hz1 .i64 .i64 (pN s) (by rw [hz2]; omega) (by unfold maxLen; omega) (Nat.zero_le _)
      have hbz : Below wz.heap.size wz w' := ⟨r2.os, r2.tape, r2.output, r2.size, fun k hk => r2.block k hk (fun e => by cases e)⟩
      exact stepIn_val (v := .slice (some ⟨wz.heap.size, 0, none⟩) 0 (pN s)) (w' := w') (fun c e => by cases e) (by simp [go_sem, execOp, d0, hρ.const, hrun]) ⟨hbz, bnext hJ hbz, wz.heap.size, rfl, hJ.size, r1⟩) ?_
    refine .cons (fun hlt f ρ wz hno hyes hρ hJ hb hd => by
      have d0 : ρ (.tmp 12) = .string s := hd 0 _ rfl rfl
      obtain ⟨g, d1, hg⟩ := hd 1 _ rfl rfl
      change ρ (.tmp 15) = _ at d1
      exact stepIn_val (v := .agg #[.string s, .slice (some ⟨g, 0, none⟩) 0 (pN s)]) (w' := wz) (fun c e => by cases e) (by simp [go_sem, execOp, d0, d1]) ⟨Below.refl _ _, hJ, g, rfl, hg⟩) ?_
    refine .cons (fun hlt f ρ wz hno hyes hρ hJ hb hd => by
      obtain ⟨g, d1, hg⟩ := hd 0 _ rfl rfl
      change ρ (.tmp 16) = _ at d1
      have hbz : Below wz.heap.size wz (wz.alloc (.cells #[.string s, .slice (some ⟨g, 0, none⟩) 0 (pN s)] 38)) := (Below.refl _ wz).alloc (Nat.le_refl _) _
      exact stepIn_val (v := .pointer (some ⟨wz.heap.size, 0, none⟩)) (w' := wz.alloc (.cells #[.string s, .slice (some ⟨g, 0, none⟩) 0 (pN s)] 38)) (fun c e => by cases e) (by simp [go_sem, execOp, d1]) ⟨hbz, bnext hJ hbz, wz.heap.size, g, rfl, hJ.size, World.alloc_heap_new wz _, hg.below hbz⟩) ?_
    refine .cons (fun hlt f ρ wz hno hyes hρ hJ hb hd => by
      have hbz : Below wz.heap.size wz (wz.alloc (.cells #[.pointer none] 23)) := (Below.refl _ wz).alloc (Nat.le_refl _) _
      exact stepIn_val (v := .pointer (some ⟨wz.heap.size, 0, none⟩)) (w' := wz.alloc (.cells #[.pointer none] 23)) (fun c e => by cases e) (by simp [go_sem, execOp]) ⟨hbz, bnext hJ hbz, wz.heap.size, rfl, hJ.size, Boxed.new wz _ _⟩) ?_
    refine .cons (fun h => absurd h (by decide)) (.nil _)
  case fin =>
    intro a W5 hsz2 hds hb hJ hv
    obtain ⟨f, _, _, hJ⟩ := hJ
    obtain ⟨p, g, h17, hpm⟩ := hv 5 (by decide)
    obtain ⟨m, h3, hm1, hm2⟩ := hv 6 (by decide)
    have h12 : a.eval (.tmp 12) = .string s := hv 0 (by decide)
    have h13 : a.eval (.tmp 13) = .string s := hv 1 (by decide)
    have h14 : a.eval (.tmp 14) = .int .i64 (pN s : Nat) := hv 2 (by decide)
    change a.eval (.tmp 17) = _ at h17
    change a.eval (.tmp 3) = _ at h3
    obtain ⟨v15, h15⟩ : ∃ v, a.eval (.tmp 15) = v := ⟨_, rfl⟩
    obtain ⟨v16, h16⟩ : ∃ v, a.eval (.tmp 16) = v := ⟨_, rfl⟩
    obtain rfl := frame_of ([(0, (.string s)), (1, (.pointer (some ⟨w.heap.size, 0, none⟩))), (2, (.pointer none)), (4, undef), (5, undef), (6, undef), (7, undef), (8, undef), (9, undef), (10, undef), (11, undef), (18, undef), (19, undef), (20, undef), (21, undef), (22, undef), (23, undef), (24, undef), (25, undef), (26, undef), (27, undef), (28, undef), (29, undef), (30, undef), (31, undef), (32, undef), (33, undef), (34, undef), (35, undef), (36, undef), (37, undef), (38, undef), (39, undef), (40, undef), (41, undef), (42, undef), (43, undef), (44, undef), (45, undef), (46, undef), (47, undef), (48, undef), (49, undef), (50, undef), (51, undef), (52, undef), (53, undef), (54, undef), (55, undef), (56, undef), (57, undef), (58, undef), (59, undef), (60, undef), (61, undef), (62, undef), (63, undef), (64, undef), (65, undef), (66, undef), (67, undef), (68, undef), (69, undef)] ++ [(3, .pointer (some ⟨m, 0, none⟩)), (12, .string s), (13, .string s), (14, .int .i64 (pN s : Nat)), (15, v15), (16, v16), (17, .pointer (some ⟨p, 0, none⟩))]) (.string s :: .pointer (some ⟨w.heap.size, 0, none⟩) :: .pointer none :: .pointer (some ⟨m, 0, none⟩) :: undef :: undef :: undef :: undef :: undef :: undef :: undef :: undef :: .string s :: .string s :: .int .i64 (pN s : Nat) :: v15 :: v16 :: .pointer (some ⟨p, 0, none⟩) :: undef :: undef :: undef :: undef :: undef :: undef :: undef :: undef :: undef :: undef :: undef :: undef :: undef :: undef :: undef :: undef :: undef :: undef :: undef :: undef :: undef :: undef :: undef :: undef :: undef :: undef :: undef :: undef :: undef :: undef :: undef :: undef :: undef :: undef :: undef :: undef :: undef :: undef :: undef :: undef :: undef :: undef :: undef :: undef :: undef :: undef :: undef :: undef :: undef :: undef :: undef :: undef :: []) hsz2 hds (fun p hp => by
      rcases List.mem_append.1 hp with h | h
      · exact hb p h
      · simp only [List.mem_cons, List.not_mem_nil, or_false] at h
        rcases h with rfl | rfl | rfl | rfl | rfl | rfl | rfl
        · exact h3
        · exact h12
        · exact h13
        · exact h14
        · exact h15
        · exact h16
        · exact h17) rfl
    clear hb hv hds hsz2 h3 h12 h13 h14 h15 h16 h17
    have hc3 := hm2.cell
    have hf3 := hm2.frozen
    refine ⟨W5.setCell ⟨m, 0, none⟩ (.pointer (some ⟨p, 0, none⟩)), by simp [go_sem, Act.eval, hc3, hf3], ?_⟩
    obtain ⟨hp1, hp2, hg1, hg2⟩ := hpm
    have hmp : m ≠ p := by
      intro e; subst e
      rw [show W5.heap[m]? = _ from hm2] at hp2
      cases hp2
    have hmg : m ≠ g := by
      intro e; subst e
      rcases hg2.2 with ⟨h, _⟩ | ⟨g', cap, cur, h1, _, h2, _⟩
      · cases h
      · cases h1
        rw [show W5.heap[m]? = _ from hm2] at h2
        cases h2
    have hpg : p ≠ g := by
      intro e; subst e
      rcases hg2.2 with ⟨h, _⟩ | ⟨g', cap, cur, h1, _, h2, _⟩
      · cases h
      · cases h1
        rw [hp2] at h2
        cases h2
    have hB5 := bnext hB1 hJ
    have hG := grown_set W5 m 0 (.pointer (some ⟨p, 0, none⟩))
    have bT6 := (boxed_below bT hJ).kept hG (fun e => by have h1 := Option.some.inj e; have h2 := bT.lt; omega)
    have bM6 := hm2.set (.pointer (some ⟨p, 0, none⟩))
    have hp6 := (hG.block p (Array.getElem?_eq_some_iff.1 hp2).1 (fun e => hmp (Option.some.inj e).symm)).trans hp2
    have hg6 := hg2.kept hG (.inr (fun e => hmg (Option.some.inj (by simpa [Value.ownBlock] using e)).symm))
    have hB6 := hB5.setCell (p := ⟨m, 0, none⟩) (by show w.heap.size ≤ m; omega) (.pointer (some ⟨p, 0, none⟩))
    have hb0 : w.heap.size + 1 ≤ m ∧ w.heap.size + 1 ≤ p ∧ w.heap.size + 1 ≤ g := by omega
    generalize W5.setCell ⟨m, 0, none⟩ (.pointer (some ⟨p, 0, none⟩)) = W6 at bT6 bM6 hp6 hg6 hB6 ⊢
    clear hG hB5 hg2 hp2 hm2 hJ bT hB1 hc3 hf3 hm1 hp1 hg1
    have c1 := bM6.cell
    have ct1 := bT6.cell
    gi_wp2_with (first | (refine ⟨trivial, ?_⟩; gi_at_call 18; refine (callsIn_wide.2 (spot0_in _ _)).mono ?_; rintro e w7 ⟨rfl, hb7⟩; have ct7 := fun o => ((boxed_below bT6 hb7).alloc o).cell) | (refine ⟨trivial, ?_⟩; gi_at_call 19; refine (callsIn_wide.2 (clumpAll_in _ _)).mono ?_; rintro e w8 ⟨rfl, rfl⟩))
    have hbA : Below w7.heap.size w7 ((w7.alloc (.cells #[.int .i64 0, .int .i64 0, .int .i64 0, .int .i64 0, .int .i64 1, .int .i64 1] 29)).alloc (.cells #[.string s] 9)) := ((Below.refl _ w7).alloc (Nat.le_refl _) _).alloc (by simp) _
    have hbA6 := bnext hb7 hbA
    have hgA := grown_below hbA6
    have hplt : p < W6.heap.size := (Array.getElem?_eq_some_iff.1 hp6).1
    have hglt : g < W6.heap.size := (hg6.lt g rfl).2
    have hmlt : m < W6.heap.size := bM6.lt
    have htlt : w.heap.size < W6.heap.size := bT6.lt
    have h76 := hb7.size
    have hst : NSt s w.heap.size m w7.heap.size p g 0 ((w7.alloc (.cells #[.int .i64 0, .int .i64 0, .int .i64 0, .int .i64 0, .int .i64 1, .int .i64 1] 29)).alloc (.cells #[.string s] 9)) :=
      ⟨boxed_below bT6 hbA6, boxed_below bM6 hbA6, (Box6.new w7 (.int .i64 0) (.int .i64 0) (.int .i64 0) (.int .i64 0) (.int .i64 1) (.int .i64 1)).below ((Below.refl _ _).alloc (Nat.le_refl _) _), (hbA6.block p hplt).trans hp6, owns_below hg6 hbA6⟩
    have bC9 := Boxed.new (w7.alloc (.cells #[.int .i64 0, .int .i64 0, .int .i64 0, .int .i64 0, .int .i64 1, .int .i64 1] 29)) 9 (.string s)
    rw [World.size_alloc] at bC9
    have hB9 := bnext hB6 hbA6
    have hz9 : ((w7.alloc (.cells #[.int .i64 0, .int .i64 0, .int .i64 0, .int .i64 0, .int .i64 1, .int .i64 1] 29)).alloc (.cells #[.string s] 9)).heap.size = w7.heap.size + 2 := by simp
    generalize ((w7.alloc (.cells #[.int .i64 0, .int .i64 0, .int .i64 0, .int .i64 0, .int .i64 1, .int .i64 1] 29)).alloc (.cells #[.string s] 9)) = W9 at hst bC9 hB9 hz9 ⊢
    obtain ⟨bh, hbh⟩ : ∃ bh, w7.heap.size = bh := ⟨_, rfl⟩
    rw [hbh] at hst bC9 hz9 h76 ⊢
    have hlts : w.heap.size < bh ∧ m < bh ∧ p < bh ∧ g < bh := by omega
    clear hbA hbA6 hgA hplt hglt hmlt htlt h76 hbh ct7 hb7 ct1 c1 hB6 hg6 hp6 bM6 bT6
    obtain ⟨bt, hbt⟩ : ∃ bt, w.heap.size = bt := ⟨_, rfl⟩
    rw [hbt] at hst hlts hb0 ⊢
    have hI : AbidesAll W9.heap.size (W9.heap.size + 2 + 8) (fun pre W => ∃ n, n ≤ pN s ∧ pB s n = atL pre ∧ NSt s bt m bh p g n W ∧ Below w.heap.size w W) := by
      rintro pre W W' row ⟨n, h1, h2, h3, h4⟩ hg hr
      refine ⟨n, h1, h2, h3.kept hg (fun r e => by have := hr r e; omega), h4.grown hg h4.size (fun k e => by have := hr k e; omega)⟩
    have hI0 : (fun (pre : List (Nat × Nat)) W => ∃ n, n ≤ pN s ∧ pB s n = atL pre ∧ NSt s bt m bh p g n W ∧ Below w.heap.size w W) [] W9 := ⟨0, by omega, rfl, hst, hB9⟩
    refine range_LH (gf := 35) (lb := #[.pointer (some ⟨bh + 1, 0, none⟩)]) rfl (enters_of Try.func35 (by kernel_rfl) rfl)
      (call_L (bh + 1) s (by omega) W9 bC9) (Below.refl _ _) (by omega) (fun _ => rfl) _ hI hI0
      (fun x a' W => ∃ b, a' = { tmps := #[.string s, .pointer (some ⟨bt, 0, none⟩), .pointer none, .pointer (some ⟨m, 0, none⟩), .pointer (some ⟨bh, 0, none⟩), undef, .pointer (some ⟨b, 0, none⟩), undef, undef, undef, undef, undef, .string s, .string s, .int .i64 (pN s : Nat), v15, v16, .pointer (some ⟨p, 0, none⟩), .pointer (some ⟨p, 0, none⟩), .agg #[.int .i64 0, .int .i64 0, .int .i64 0, .int .i64 0, .int .i64 1, .int .i64 1], .string s, .func (.func 35) #[] #[.pointer (some ⟨bh + 1, 0, none⟩)], .int .i64 (x.1 : Nat), .string (s.extract x.1 x.2), undef, undef, undef, undef, undef, undef, undef, undef, undef, undef, undef, undef, undef, undef, undef, undef, undef, undef, undef, undef, undef, undef, undef, undef, undef, undef, undef, undef, undef, undef, undef, undef, undef, undef, undef, undef, undef, undef, undef, undef, undef, undef, undef, undef, undef, undef], defers := [] } ∧ W9.heap.size + 10 ≤ b ∧ Boxed W b 9 (.string (s.extract x.1 x.2)))
      ?hAx ?assign ?body ?done
    case hAx =>
      rintro x a' _ W W' row ⟨b, h1, h2, h3⟩ hg hr
      exact ⟨b, h1, h2, h3.kept hg (fun e => by have := hr b e.symm; omega)⟩
    case assign =>
      intro l pre x rest W K hpre hz hi hK
      gi_wp2
      have hbW : Below W.heap.size W (W.alloc (.cells #[.string (s.extract x.1 x.2)] 9)) := (Below.refl _ W).alloc (Nat.le_refl _) _
      exact hK _ _ (KO.of_below hbW) (hI.later hi hbW) ⟨W.heap.size, rfl, by omega, Boxed.new W 9 (.string (s.extract x.1 x.2))⟩
    case done =>
      rintro D W hD hzW ⟨n, hn, hpb, hstn, hB⟩ hKD
      have hnN : n = pN s := pB_inj hn (Nat.le_refl _) (by rw [hpb, cp_end, pB_end])
      subst hnN
      have c1 := hstn.m.cell
      have hmap := hstn.map
      have hsD : w.heap.size ≤ D := by omega
      clear hD hst bC9 hB9 hI hI0
      gi_wp2
      refine ⟨by simp, .inl ⟨_, _, rfl, run_takeDeferred hKD, ?_⟩⟩
      exact ⟨_, results_tmp rfl _ _ _, p, rfl, map_put hmap hKD rfl, hB.trans (belowK_b (w := w) (Nat.le_refl _) W D _ _ hsD hKD rfl rfl)⟩
    case body =>
      rintro l pre x rest a' W hpre hzW hl1 hl2 ⟨r, hr⟩ ⟨n0, hn0, hpb0, hst0, hB0⟩ ⟨b, rfl, hb1, hbx⟩
      have cx := hbx.cell
      gi_wp2_with (refine ⟨trivial, ?_⟩; gi_at_call 20; refine (CallsIn.inRound l (all_in Fence.wide _ trivial rfl _ _)).mono ?_; rintro e w' ⟨rfl, rfl⟩)
      obtain ⟨ca, cb⟩ := x
      obtain ⟨hat, hlt, hle, hbra, hbrb⟩ := cp_at hpre
      have hends := fun (j i : Nat) => clump_ends (j := j) (i := i) hpre (hpb0.trans hat.symm)
      dsimp only at hat hlt hle hbra hbrb hbx cx ⊢
      have hsyb := brL_sync hbrb
      have hparts := fun (j i : Nat) => part_at (s := s) (a := ca) (b := cb) (n0 := n0) (j := j) (i := i) (hpb0.trans hat.symm) hsyb hle (Nat.le_of_lt hlt)
      obtain ⟨hpe1, hpe2⟩ := part_end (s := s) (a := ca) (b := cb) (n0 := n0) (hpb0.trans hat.symm) hn0 hsyb hle (Nat.le_of_lt hlt)
      have hts := size_ext s ca cb hle
      obtain ⟨t, ht⟩ : ∃ t, s.extract ca cb = t := ⟨_, rfl⟩
      rw [ht] at hends hparts hpe1 hpe2 hts hbx cx ⊢
      have hpost : ∀ n V, n ≤ pN s → pB s n = cb → NSt s bt m bh p g n V → Below w.heap.size w V → ∃ n, n ≤ pN s ∧ pB s n = atL (pre ++ [(ca, cb)]) ∧ NSt s bt m bh p g n V ∧ Below w.heap.size w V := fun n V h1 h2 h3 h4 => ⟨n, h1, by rw [atL_snoc]; exact h2, h3, h4⟩
      clear ht hat hbra hbrb hsyb hpb0 hI hI0 hst bC9 hB9 cx
      have hbW : Below W.heap.size W (W.alloc (.cells #[.string t] 9)) := (Below.refl _ W).alloc (Nat.le_refl _) _
      have hr2 : (W.alloc (.cells #[.string t] 9)).heap[l]? = some (.loop r) := (hbW.block l (Array.getElem?_eq_some_iff.1 hr).1).trans hr
      have bx2 := Boxed.new W 9 (.string t)
      have hst2 := hst0.kept (grown_below hbW) (fun r e => by cases e)
      have hB2 := bnext hB0 hbW
      have hko2 : KO W9.heap.size (W9.heap.size + 2 + 8) (bh + 1) W (W.alloc (.cells #[.string t] 9)) := KO.of_below hbW
      have hbx2 := boxed_below hbx hbW
      have hz2' : (W.alloc (.cells #[.string t] 9)).heap.size = W.heap.size + 1 := by simp
      have hbWl := hbx.lt
      generalize W.alloc (.cells #[.string t] 9) = W2 at hr2 bx2 hst2 hB2 hko2 hbx2 hz2' ⊢
      obtain ⟨B2, hB2'⟩ : ∃ B2, W.heap.size = B2 := ⟨_, rfl⟩
      have hW2 : W.heap.size ≤ W2.heap.size := by omega
      rw [hB2'] at bx2 hz2' hbWl hzW ⊢
      have hI2 : AbidesAll W2.heap.size (W2.heap.size + 1 + 1) (fun (pre2 : List Nat) V => NSt s bt m bh p g (n0 + pre2.length) V ∧ Below w.heap.size w V ∧ KO W9.heap.size (W9.heap.size + 2 + 8) (bh + 1) W V ∧ Boxed V b 9 (.string t)) := by
        rintro pre2 V V' row ⟨h1, h2, h3, h4⟩ hg hr
        refine ⟨h1.kept hg (fun r e => by have := hr r e; omega), h2.grown hg h2.size (fun k e => by have := hr k e; omega), (AbidesAll.ko (β := Unit) hW2) () V V' row h3 hg hr, h4.kept hg (fun e => by have := hr b e.symm; omega)⟩
      refine range_LN hr2 (gf := 38) (lb := #[.pointer (some ⟨B2, 0, none⟩)]) rfl (enters_of Try.func38 (by kernel_rfl) rfl)
        (all_L B2 t W2 bx2) (Below.refl _ _) (by omega) (fun _ => rfl) _ hI2 ⟨hst2, hB2, hko2, hbx2⟩
        (fun i => { tmps := #[.string s, .pointer (some ⟨bt, 0, none⟩), .pointer none, .pointer (some ⟨m, 0, none⟩), .pointer (some ⟨bh, 0, none⟩), undef, .pointer (some ⟨b, 0, none⟩), .int .i64 (i : Nat), .int .i32 (rn t i : Nat), undef, undef, undef, .string s, .string s, .int .i64 (pN s : Nat), v15, v16, .pointer (some ⟨p, 0, none⟩), .pointer (some ⟨p, 0, none⟩), .agg #[.int .i64 0, .int .i64 0, .int .i64 0, .int .i64 0, .int .i64 1, .int .i64 1], .string s, .func (.func 35) #[] #[.pointer (some ⟨bh + 1, 0, none⟩)], .int .i64 (ca : Nat), .string t, .string t, .func (.func 38) #[] #[.pointer (some ⟨B2, 0, none⟩)], .int .i64 (i : Nat), .int .i32 (rn t i : Nat), undef, undef, undef, undef, undef, undef, undef, undef, undef, undef, undef, undef, undef, undef, undef, undef, undef, undef, undef, undef, undef, undef, undef, undef, undef, undef, undef, undef, undef, undef, undef, undef, undef, undef, undef, undef, undef, undef, undef, undef, undef, undef], defers := [] }) ?assign2 ?body2 ?done2
      case assign2 =>
        intro l2 i V K hK
        gi_wp2
        exact hK
      case done2 =>
        rintro V hzV ⟨h1, h2, h3, h4⟩
        exact ⟨h3, hpost _ V hpe1 hpe2 h1 h2⟩
      case body2 =>
        rintro l2 pre2 i rest2 V hpre2 hzV ⟨hstV, hBV, hkoV, hbV⟩
        have hj : (allL t)[pre2.length]? = some i := by rw [← hpre2]; simp
        obtain ⟨hn1, hpx, hpl, hrx, hwx, hwl⟩ := hparts _ _ hj
        have hcx := hends _ _ hj
        obtain ⟨n, hn⟩ : ∃ n, n0 + pre2.length = n := ⟨_, rfl⟩
        rw [hn] at hstV hn1 hpx hcx
        have hnx : n0 + (pre2 ++ [i]).length = n + 1 := by simp; omega
        have hit : i < t.size := (mem_allL.1 (List.mem_of_getElem? hj)).1
        obtain ⟨R, hR⟩ : ∃ R, rn s (ca + i) = R := ⟨_, rfl⟩
        obtain ⟨d, hd⟩ : ∃ d, wd s (ca + i) = d := ⟨_, rfl⟩
        obtain ⟨k, hok⟩ : ∃ k, okR t i = k := ⟨_, rfl⟩
        rw [hR] at hrx
        rw [hd] at hwx hwl
        rw [hwx] at hcx
        have X1 := hide ((dR_in t i hit).trans (congrArg Int.ofNat hrx))
        have X2 := hide ((dN_in t i hit).trans (congrArg Int.ofNat hwx))
        have X3 := hide ((dK_in t i hit).trans hok)
        have cx := hbV.cell
        have hB1 : pB s (n + 1) = pB s n + d := by show pB s n + wd s (pB s n) = _; rw [hpx, hd]
        have hU1 : pU s (n + 1) = pU s n + if 65536 ≤ R then 2 else 1 := by show pU s n + pW s (pB s n) = _; rw [hpx]; unfold pW; rw [hR]
        obtain ⟨E, hE⟩ : ∃ E, pE s (pB s n) = E := ⟨_, rfl⟩
        have hL1 : pL s (n + 1) = if E then pL s n + 1 else pL s n := by show (if pE s (pB s n) then _ else _) = _; rw [hE]
        have hK1 : pK s (n + 1) = if E then 1 else pK s n + 1 := by show (if pE s (pB s n) then _ else _) = _; rw [hE]
        have hE2 : E = (R == 10 || (R == 13 && !(decide (pB s n + d < s.size) && by_ s (pB s n + d) == 10))) := by rw [← hE]; unfold pE; rw [hpx, hR, hd]
        have hPB := pB_le s (n + 1) hn1
        have hUl := pU_le s n
        have hLl := (pL_le s n).2
        have hKl := (pK_le s n).2
        have hCl := pC_le s n
        have hd4 : d ≤ s.size := by omega
        have hRl := rn_lt s (ca + i) (by omega)
        rw [hR] at hRl
        rw [hB1] at hPB
        have hst1 : ∀ W, NSx s bt m bh p g (n + 1) (.int .i64 (pB s n + d : Nat)) (.int .i64 (n + 1 : Nat)) (.int .i64 (pU s n + (if 65536 ≤ R then 2 else 1) : Nat)) (.int .i64 (pC s n + (if i + d = cb - ca then 1 else 0) : Nat)) (.int .i64 ((if E then pL s n + 1 else pL s n) : Nat)) (.int .i64 ((if E then 1 else pK s n + 1) : Nat)) W → NSt s bt m bh p g (n + 1) W := fun W h => by unfold NSt; rw [hB1, hU1, hcx, hL1, hK1]; exact h
        have hspc : spC s (n + 1) = [.int .i64 (pB s n + d : Nat), .int .i64 (n + 1 : Nat), .int .i64 (pU s n + (if 65536 ≤ R then 2 else 1) : Nat), .int .i64 (pC s n + (if i + d = cb - ca then 1 else 0) : Nat), .int .i64 ((if E then pL s n + 1 else pL s n) : Nat), .int .i64 ((if E then 1 else pK s n + 1) : Nat)] := by unfold spC; rw [hB1, hU1, hcx, hL1, hK1]
        obtain ⟨B, hB⟩ : ∃ B, pB s n = B := ⟨_, rfl⟩
        obtain ⟨U, hU⟩ : ∃ U, pU s n = U := ⟨_, rfl⟩
        obtain ⟨C, hC⟩ : ∃ C, pC s n = C := ⟨_, rfl⟩
        obtain ⟨L, hL⟩ : ∃ L, pL s n = L := ⟨_, rfl⟩
        obtain ⟨K0, hK⟩ : ∃ K, pK s n = K := ⟨_, rfl⟩
        change NSx s bt m bh p g n (.int .i64 (pB s n : Nat)) (.int .i64 (n : Nat)) (.int .i64 (pU s n : Nat)) (.int .i64 (pC s n : Nat)) (.int .i64 (pL s n : Nat)) (.int .i64 (pK s n : Nat)) V at hstV
        rw [hB, hU, hC, hL, hK] at hstV hst1 hspc
        rw [hB] at hE2 hPB
        rw [hU] at hUl
        rw [hC] at hCl
        rw [hL] at hLl
        rw [hK] at hKl
        have HnN := hide hn1
        have hn6 : n ≤ 1000000 := by omega
        have hfin : ∀ V', KQ bh p g V V' → NSt s bt m bh p g (n + 1) V' → Below w.heap.size w V' → KO W2.heap.size (W2.heap.size + 1 + 1) B2 V V' ∧ NSt s bt m bh p g (n0 + (pre2 ++ [i]).length) V' ∧ Below w.heap.size w V' ∧ KO W9.heap.size (W9.heap.size + 2 + 8) (bh + 1) W V' ∧ Boxed V' b 9 (.string t) := by
          intro V' hq h1 h2
          rw [hnx]
          exact ⟨hq _ _ _ (by omega) (by omega), h1, h2, hkoV.trans (hq _ _ _ (by omega) (by omega)), ((hq b (b + 1) (bh + 1) (by omega) (by omega)).over b (Nat.le_refl _) (by omega) hbV.lt).trans hbV⟩
        have Hfin := hide hfin
        have Hst1 := hide hst1
        have Hspc := hide hspc
        have HE2 := hide hE2
        clear hj hparts hends hpe1 hpe2 hpre2 hst0 hst2 hko2 hbx2 hbx hB2 hr2 bx2 hr hI2 hfin hst1 hspc hE2 hE hL1 hK1 hU1 hB1 hcx hpx hR hd hn1 hB hU hC hL hK hok hkoV hpost hW2 hB2' hnx hn hzV
        gi_wp2_with (refine ⟨trivial, ?_⟩; gi_at_call 21; refine (CallsIn.inRound l2 (callsIn_wide.2 (decode_any _ _ _ (by unfold maxLen; omega)))).mono ?_; rintro e V2 ⟨rfl, rfl⟩; rw [unhide X1, unhide X2, unhide X3])
        refine wpIn_region_any (by kernel_rfl) ?_
        change wpAnyIn _ _ _ _ _ _ _ _ _ (World.drew _)
        refine region_st (fun _ => trivial) rfl 70 (fun j => 35 + j) ((0, (Value.string s)) :: (1, (Value.pointer (some { block := bt, off := 0 }))) :: (2, (Value.pointer none)) :: (3, (Value.pointer (some { block := m, off := 0 }))) :: (4, (Value.pointer (some { block := bh, off := 0 }))) :: (5, undef) :: (6, (Value.pointer (some { block := b, off := 0 }))) :: (7, (Value.int IntKind.i64 ↑i)) :: (8, (Value.int IntKind.i32 ↑R)) :: (9, (Value.int IntKind.i32 ↑R)) :: (10, (Value.int IntKind.i64 ↑d)) :: (11, (Value.bool k)) :: (12, (Value.string s)) :: (13, (Value.string s)) :: (14, (Value.int IntKind.i64 ↑(pN s))) :: (15, v15) :: (16, v16) :: (17, (Value.pointer (some { block := p, off := 0 }))) :: (18, (Value.pointer (some { block := p, off := 0 }))) :: (19, (Value.agg #[Value.int IntKind.i64 0, Value.int IntKind.i64 0, Value.int IntKind.i64 0, Value.int IntKind.i64 0, Value.int IntKind.i64 1, Value.int IntKind.i64 1])) :: (20, (Value.string s)) :: (21, (Value.func (Fn.func 35) #[] #[Value.pointer (some { block := bh + 1, off := 0 })])) :: (22, (Value.int IntKind.i64 ↑ca)) :: (23, (Value.string t)) :: (24, (Value.string t)) :: (25, (Value.func (Fn.func 38) #[] #[Value.pointer (some { block := B2, off := 0 })])) :: (26, (Value.int IntKind.i64 ↑i)) :: (27, (Value.int IntKind.i32 ↑R)) :: (28, (Value.tuple #[Value.int IntKind.i32 ↑R, Value.int IntKind.i64 ↑d, Value.bool k])) :: (29, (Value.string t)) :: (30, (Value.int IntKind.i64 ↑i)) :: (31, (Value.tuple #[Value.int IntKind.i32 ↑R, Value.int IntKind.i64 ↑d, Value.bool k])) :: (32, (Value.int IntKind.i32 ↑R)) :: (33, (Value.int IntKind.i64 ↑d)) :: (34, (Value.bool k)) :: (44, undef) :: (45, undef) :: (46, undef) :: (47, undef) :: (48, undef) :: (49, undef) :: (50, undef) :: (51, undef) :: (52, undef) :: (53, undef) :: (54, undef) :: (55, undef) :: (56, undef) :: (57, undef) :: (58, undef) :: (59, undef) :: (60, undef) :: (61, undef) :: (62, undef) :: (63, undef) :: (64, undef) :: (65, undef) :: (66, undef) :: (67, undef) :: (68, undef) :: (69, undef) :: [])
          (fun _ W => Below V.heap.size V W)
          (valsOf [isV (.agg #[.int .i64 (B : Nat), .int .i64 (n : Nat), .int .i64 (U : Nat), .int .i64 (C : Nat), .int .i64 (L : Nat), .int .i64 (K0 : Nat)]), isV (Value.int IntKind.i32 ↑R), isV (.string s), isV (.pointer (some ⟨bh, 0, none⟩)), isV (.int .i64 (B : Nat)), isV (Value.int IntKind.i64 ↑d), isV (.int .i64 ((B : Int) + (d : Int))), isV (.string (s.extract (B + d) s.size)), isV (.agg #[.int .i64 (B : Nat), .int .i64 (n + 1 : Nat), .int .i64 (U + (if 65536 ≤ R then 2 else 1) : Nat), .int .i64 (C : Nat), .int .i64 ((if E then L + 1 else L) : Nat), .int .i64 ((if E then 1 else K0 + 1) : Nat)])])
          (fun w w' => Below w.heap.size w w') [] ?pos ?fit ?last (fun j f => valsOf_stable (Stables.all ?stable) j) ?steps 29 (.tmp 4) (.tmp 43) rfl ?fin _ _ ?sz rfl ?base ?start
        case pos => decide
        case fit => kernel_rfl
        case last => kernel_rfl
        case sz => rfl
        case base => intro p hp; repeat (first | (rcases List.mem_cons.1 hp with rfl | hp; · rfl) | cases hp)
        case stable => repeat (first | exact .nil | refine .same ?_)
        case start => exact (Below.refl _ _).drew
        case steps =>
          refine .cons (fun hlt f ρ wz hno hyes hρ hJ hb hd => by
            have d0 : ρ (.tmp 4) = (Value.pointer (some { block := bh, off := 0 })) := hb (4, _) (List.mem_of_getElem? (i := 4) rfl)
            obtain ⟨c0, c1, c2, c3, c4, c5, _⟩ := (hstV.h.below hJ).facts
            exact stepIn_val (v := (.agg #[.int .i64 (B : Nat), .int .i64 (n : Nat), .int .i64 (U : Nat), .int .i64 (C : Nat), .int .i64 (L : Nat), .int .i64 (K0 : Nat)])) (w' := wz) (fun c e => by cases e) (by simp [go_sem, execOp, d0, c0, c1, c2, c3, c4, c5]) ⟨Below.refl _ _, hJ, rfl⟩) ?_
          refine .cons (fun hlt f ρ wz hno hyes hρ hJ hb hd => by
            have d0 : ρ (.tmp 8) = (Value.int IntKind.i32 ↑R) := hb (8, _) (List.mem_of_getElem? (i := 8) rfl)
            exact stepIn_move (.tmp 8) rfl ⟨Below.refl _ _, hJ, d0⟩) ?_
          refine .cons (fun hlt f ρ wz hno hyes hρ hJ hb hd => by
            have d0 : ρ (.tmp 1) = (Value.pointer (some { block := bt, off := 0 })) := hb (1, _) (List.mem_of_getElem? (i := 1) rfl)
            have c1 := (boxed_below hstV.t hJ).cell
            exact stepIn_val (v := (.string s)) (w' := wz) (fun c e => by cases e) (by simp [go_sem, execOp, d0, c1]) ⟨Below.refl _ _, hJ, rfl⟩) ?_
          refine .cons (fun hlt f ρ wz hno hyes hρ hJ hb hd => by
            have d0 : ρ (.tmp 4) = (Value.pointer (some { block := bh, off := 0 })) := hb (4, _) (List.mem_of_getElem? (i := 4) rfl)
            exact stepIn_val (v := (.pointer (some ⟨bh, 0, none⟩))) (w' := wz) (fun c e => by cases e) (by simp [go_sem, execOp, d0, hρ.const]) ⟨Below.refl _ _, hJ, rfl⟩) ?_
          refine .cons (fun hlt f ρ wz hno hyes hρ hJ hb hd => by
            have d0 : ρ (.tmp 38) = (.pointer (some ⟨bh, 0, none⟩)) := hd 0 _ rfl rfl
            obtain ⟨c0, _⟩ := (hstV.h.below hJ).facts
            exact stepIn_val (v := (.int .i64 (B : Nat))) (w' := wz) (fun c e => by cases e) (by simp [go_sem, execOp, d0, c0]) ⟨Below.refl _ _, hJ, rfl⟩) ?_
          refine .cons (fun hlt f ρ wz hno hyes hρ hJ hb hd => by
            have d0 : ρ (.tmp 10) = (Value.int IntKind.i64 ↑d) := hb (10, _) (List.mem_of_getElem? (i := 10) rfl)
            exact stepIn_move (.tmp 10) rfl ⟨Below.refl _ _, hJ, d0⟩) ?_
          refine .cons (fun hlt f ρ wz hno hyes hρ hJ hb hd => by
            have d0 : ρ (.tmp 39) = (.int .i64 (B : Nat)) := hd 0 _ rfl rfl
            have d1 : ρ (.tmp 40) = (Value.int IntKind.i64 ↑d) := hd 1 _ rfl rfl
            refine stepIn_val (v := (.int .i64 ((B : Int) + (d : Int)))) (w' := wz) (fun c e => by cases e) ?_ ⟨Below.refl _ _, hJ, rfl⟩
            simp [go_sem, execOp, d0, d1]
            exact wrap_small (by omega) (by omega)) ?_
          refine .cons (fun hlt f ρ wz hno hyes hρ hJ hb hd => by
            have d0 : ρ (.tmp 37) = (.string s) := hd 0 _ rfl rfl
            have d1 : ρ (.tmp 41) = (.int .i64 ((B : Int) + (d : Int))) := hd 1 _ rfl rfl
            have j1 : (B : Int) + (d : Int) ≤ (s.size : Int) := by omega
            have j2 : (0 : Int) ≤ (B : Int) + (d : Int) := by omega
            have j3 : ((B : Int) + (d : Int)).toNat = B + d := by omega
            exact stepIn_val (v := (.string (s.extract (B + d) s.size))) (w' := wz) (fun c e => by cases e) (by simp [go_sem, execOp, d0, d1, j1, j2, j3]) ⟨Below.refl _ _, hJ, rfl⟩) ?_
          refine .cons (fun hlt f ρ wz hno hyes hρ hJ hb hd => by
            have d0 : ρ (.tmp 35) = (.agg #[.int .i64 (B : Nat), .int .i64 (n : Nat), .int .i64 (U : Nat), .int .i64 (C : Nat), .int .i64 (L : Nat), .int .i64 (K0 : Nat)]) := hd 0 _ rfl rfl
            have d1 : ρ (.tmp 36) = (Value.int IntKind.i32 ↑R) := hd 1 _ rfl rfl
            have d2 : ρ (.tmp 42) = (.string (s.extract (B + d) s.size)) := hd 2 _ rfl rfl
            refine stepIn_func 22 _ _ #[spV B n U C L K0, .int .i32 (R : Nat), .string (s.extract (B + d) s.size)] hρ rfl (enters_of Try.func22 (by kernel_rfl) rfl) (by simp [d0, d1, d2]; rfl) (CallsIn.inRound l2 (callsIn_wide.2 ((passed_in B n U C L K0 R (s.extract (B + d) s.size) wz (by omega) (by omega) (by omega) (by omega) (by rw [size_ext s _ s.size (Nat.le_refl _)]; omega) E (by rw [unhide HE2, ← pre_ext s (B + d) hPB]; rfl)).mono ?_)))
            rintro e w2 ⟨rfl, hb2⟩
            exact ⟨_, rfl, hb2, bnext hJ hb2, rfl⟩) ?_
          refine .cons (fun h => absurd h (by decide)) (.nil _)
        case fin =>
          intro a W5 hsz2 hds hb hJ hv
          obtain rfl := frame_of (((0, (Value.string s)) :: (1, (Value.pointer (some { block := bt, off := 0 }))) :: (2, (Value.pointer none)) :: (3, (Value.pointer (some { block := m, off := 0 }))) :: (4, (Value.pointer (some { block := bh, off := 0 }))) :: (5, undef) :: (6, (Value.pointer (some { block := b, off := 0 }))) :: (7, (Value.int IntKind.i64 ↑i)) :: (8, (Value.int IntKind.i32 ↑R)) :: (9, (Value.int IntKind.i32 ↑R)) :: (10, (Value.int IntKind.i64 ↑d)) :: (11, (Value.bool k)) :: (12, (Value.string s)) :: (13, (Value.string s)) :: (14, (Value.int IntKind.i64 ↑(pN s))) :: (15, v15) :: (16, v16) :: (17, (Value.pointer (some { block := p, off := 0 }))) :: (18, (Value.pointer (some { block := p, off := 0 }))) :: (19, (Value.agg #[Value.int IntKind.i64 0, Value.int IntKind.i64 0, Value.int IntKind.i64 0, Value.int IntKind.i64 0, Value.int IntKind.i64 1, Value.int IntKind.i64 1])) :: (20, (Value.string s)) :: (21, (Value.func (Fn.func 35) #[] #[Value.pointer (some { block := bh + 1, off := 0 })])) :: (22, (Value.int IntKind.i64 ↑ca)) :: (23, (Value.string t)) :: (24, (Value.string t)) :: (25, (Value.func (Fn.func 38) #[] #[Value.pointer (some { block := B2, off := 0 })])) :: (26, (Value.int IntKind.i64 ↑i)) :: (27, (Value.int IntKind.i32 ↑R)) :: (28, (Value.tuple #[Value.int IntKind.i32 ↑R, Value.int IntKind.i64 ↑d, Value.bool k])) :: (29, (Value.string t)) :: (30, (Value.int IntKind.i64 ↑i)) :: (31, (Value.tuple #[Value.int IntKind.i32 ↑R, Value.int IntKind.i64 ↑d, Value.bool k])) :: (32, (Value.int IntKind.i32 ↑R)) :: (33, (Value.int IntKind.i64 ↑d)) :: (34, (Value.bool k)) :: (44, undef) :: (45, undef) :: (46, undef) :: (47, undef) :: (48, undef) :: (49, undef) :: (50, undef) :: (51, undef) :: (52, undef) :: (53, undef) :: (54, undef) :: (55, undef) :: (56, undef) :: (57, undef) :: (58, undef) :: (59, undef) :: (60, undef) :: (61, undef) :: (62, undef) :: (63, undef) :: (64, undef) :: (65, undef) :: (66, undef) :: (67, undef) :: (68, undef) :: (69, undef) :: []) ++ [(35, (.agg #[.int .i64 (B : Nat), .int .i64 (n : Nat), .int .i64 (U : Nat), .int .i64 (C : Nat), .int .i64 (L : Nat), .int .i64 (K0 : Nat)])), (36, (Value.int IntKind.i32 ↑R)), (37, (.string s)), (38, (.pointer (some ⟨bh, 0, none⟩))), (39, (.int .i64 (B : Nat))), (40, (Value.int IntKind.i64 ↑d)), (41, (.int .i64 ((B : Int) + (d : Int)))), (42, (.string (s.extract (B + d) s.size))), (43, (.agg #[.int .i64 (B : Nat), .int .i64 (n + 1 : Nat), .int .i64 (U + (if 65536 ≤ R then 2 else 1) : Nat), .int .i64 (C : Nat), .int .i64 ((if E then L + 1 else L) : Nat), .int .i64 ((if E then 1 else K0 + 1) : Nat)]))]) ((Value.string s) :: (Value.pointer (some { block := bt, off := 0 })) :: (Value.pointer none) :: (Value.pointer (some { block := m, off := 0 })) :: (Value.pointer (some { block := bh, off := 0 })) :: undef :: (Value.pointer (some { block := b, off := 0 })) :: (Value.int IntKind.i64 ↑i) :: (Value.int IntKind.i32 ↑R) :: (Value.int IntKind.i32 ↑R) :: (Value.int IntKind.i64 ↑d) :: (Value.bool k) :: (Value.string s) :: (Value.string s) :: (Value.int IntKind.i64 ↑(pN s)) :: v15 :: v16 :: (Value.pointer (some { block := p, off := 0 })) :: (Value.pointer (some { block := p, off := 0 })) :: (Value.agg #[Value.int IntKind.i64 0, Value.int IntKind.i64 0, Value.int IntKind.i64 0, Value.int IntKind.i64 0, Value.int IntKind.i64 1, Value.int IntKind.i64 1]) :: (Value.string s) :: (Value.func (Fn.func 35) #[] #[Value.pointer (some { block := bh + 1, off := 0 })]) :: (Value.int IntKind.i64 ↑ca) :: (Value.string t) :: (Value.string t) :: (Value.func (Fn.func 38) #[] #[Value.pointer (some { block := B2, off := 0 })]) :: (Value.int IntKind.i64 ↑i) :: (Value.int IntKind.i32 ↑R) :: (Value.tuple #[Value.int IntKind.i32 ↑R, Value.int IntKind.i64 ↑d, Value.bool k]) :: (Value.string t) :: (Value.int IntKind.i64 ↑i) :: (Value.tuple #[Value.int IntKind.i32 ↑R, Value.int IntKind.i64 ↑d, Value.bool k]) :: (Value.int IntKind.i32 ↑R) :: (Value.int IntKind.i64 ↑d) :: (Value.bool k) :: (.agg #[.int .i64 (B : Nat), .int .i64 (n : Nat), .int .i64 (U : Nat), .int .i64 (C : Nat), .int .i64 (L : Nat), .int .i64 (K0 : Nat)]) :: (Value.int IntKind.i32 ↑R) :: (.string s) :: (.pointer (some ⟨bh, 0, none⟩)) :: (.int .i64 (B : Nat)) :: (Value.int IntKind.i64 ↑d) :: (.int .i64 ((B : Int) + (d : Int))) :: (.string (s.extract (B + d) s.size)) :: (.agg #[.int .i64 (B : Nat), .int .i64 (n + 1 : Nat), .int .i64 (U + (if 65536 ≤ R then 2 else 1) : Nat), .int .i64 (C : Nat), .int .i64 ((if E then L + 1 else L) : Nat), .int .i64 ((if E then 1 else K0 + 1) : Nat)]) :: undef :: undef :: undef :: undef :: undef :: undef :: undef :: undef :: undef :: undef :: undef :: undef :: undef :: undef :: undef :: undef :: undef :: undef :: undef :: undef :: undef :: undef :: undef :: undef :: undef :: undef :: []) hsz2 hds (fun p hp => by
            rcases List.mem_append.1 hp with h | h
            · exact hb p h
            · simp only [List.mem_cons, List.not_mem_nil, or_false] at h
              rcases h with rfl | rfl | rfl | rfl | rfl | rfl | rfl | rfl | rfl
              · exact hv 0 (by decide)
              · exact hv 1 (by decide)
              · exact hv 2 (by decide)
              · exact hv 3 (by decide)
              · exact hv 4 (by decide)
              · exact hv 5 (by decide)
              · exact hv 6 (by decide)
              · exact hv 7 (by decide)
              · exact hv 8 (by decide)) rfl
          clear hb hv hds hsz2
          obtain ⟨f, _, _, hJ⟩ := hJ
          have hst5 := hstV.kept (grown_below hJ) (fun r e => by cases e)
          have hB5 := bnext hBV hJ
          have hq5 : KQ bh p g V W5 := KQ.below hJ
          obtain ⟨c0, c1, c2, c3, c4, c5, f0, f1, f2, f3, f4, f5⟩ := hst5.h.facts
          refine ⟨set6 W5 bh (.int .i64 (B : Nat)) (.int .i64 (n + 1 : Nat)) (.int .i64 (U + (if 65536 ≤ R then 2 else 1) : Nat)) (.int .i64 (C : Nat)) (.int .i64 ((if E then L + 1 else L) : Nat)) (.int .i64 ((if E then 1 else K0 + 1) : Nat)), by unfold set6; simp [go_sem, Act.eval, c0, c1, c2, c3, c4, c5, f0, f1, f2, f3, f4, f5], ?_⟩
          have hG6 := grown_set6 W5 bh (.int .i64 (B : Nat)) (.int .i64 (n + 1 : Nat)) (.int .i64 (U + (if 65536 ≤ R then 2 else 1) : Nat)) (.int .i64 (C : Nat)) (.int .i64 ((if E then L + 1 else L) : Nat)) (.int .i64 ((if E then 1 else K0 + 1) : Nat))
          have hst6 := hst5.here hG6 (by omega) (hst5.h.set6 (.int .i64 (B : Nat)) (.int .i64 (n + 1 : Nat)) (.int .i64 (U + (if 65536 ≤ R then 2 else 1) : Nat)) (.int .i64 (C : Nat)) (.int .i64 ((if E then L + 1 else L) : Nat)) (.int .i64 ((if E then 1 else K0 + 1) : Nat)))
          have hB6 := hB5.grown hG6 hB5.size (fun k e => by cases e; omega)
          have hq6 := hq5.trans (KQ.grown hG6 (.inl rfl) (cells_nowalk hst5.h))
          generalize set6 W5 bh (.int .i64 (B : Nat)) (.int .i64 (n + 1 : Nat)) (.int .i64 (U + (if 65536 ≤ R then 2 else 1) : Nat)) (.int .i64 (C : Nat)) (.int .i64 ((if E then L + 1 else L) : Nat)) (.int .i64 ((if E then 1 else K0 + 1) : Nat)) = W6 at hst6 hB6 hq6 ⊢
          obtain ⟨c0, c1, c2, c3, c4, c5, f0, f1, f2, f3, f4, f5⟩ := hst6.h.facts
          clear hst5 hB5 hq5 hG6 hJ hstV hBV
          generalize (if 65536 ≤ R then 2 else 1) = u1 at hst6 Hst1 Hspc ⊢
          generalize (if E = true then L + 1 else L) = L1 at hst6 Hst1 Hspc ⊢
          generalize (if E = true then 1 else K0 + 1) = K1 at hst6 Hst1 Hspc ⊢
          have hc2 : ((B + d : Nat) : Int) = (B : Int) + (d : Int) := by simp
          rw [hc2] at Hst1 Hspc
          have hst7 := hst6.here (grown_set W6 bh 0 (.int .i64 ((B : Int) + (d : Int)))) (by omega) (hst6.h.set0 (.int .i64 ((B : Int) + (d : Int))))
          have hB7 := hB6.setCell (p := ⟨bh, 0, none⟩) (by show w.heap.size ≤ bh; omega) (.int .i64 ((B : Int) + (d : Int)))
          have hq7 := hq6.trans (KQ.grown (grown_set W6 bh 0 (.int .i64 ((B : Int) + (d : Int)))) (.inl rfl) (cells_nowalk hst6.h))
          have hcx7 := ((hq7 b (b + 1) (bh + 1) (by omega) (by omega)).over b (Nat.le_refl _) (by omega) hbV.lt).trans hbV
          have hcx8 := Boxed.cell hcx7
          obtain ⟨W7, hW7⟩ : ∃ W7, W6.setCell ⟨bh, 0, none⟩ (.int .i64 ((B : Int) + (d : Int))) = W7 := ⟨_, rfl⟩
          rw [hW7] at hst7 hB7 hq7 hcx8
          obtain ⟨_, _, _, g3, _, _, _, _, _, k3, _, _⟩ := hst7.h.facts
          clear c1 c2 c3 c4 c5 f1 f2 f3 f4 f5 hcx7 hst6 hB6 hq6 hc2 HE2 X1 X2 X3
          by_cases hcl : i + d = cb - ca
          · have i1 : ((i : Int) + (d : Int) == (t.size : Int)) = true := by rw [beq_iff_eq]; omega
            rw [if_pos hcl] at Hst1 Hspc
            have hc3 : ((C + 1 : Nat) : Int) = (C : Int) + 1 := by simp
            rw [hc3] at Hst1 Hspc
            have hst8 := hst7.here (grown_set W7 bh 3 (.int .i64 ((C : Int) + 1))) (by omega) (hst7.h.set3 (.int .i64 ((C : Int) + 1)))
            have hB8 := hB7.setCell (p := ⟨bh, 3, none⟩) (by show w.heap.size ≤ bh; omega) (.int .i64 ((C : Int) + 1))
            have hq8 := hq7.trans (KQ.grown (grown_set W7 bh 3 (.int .i64 ((C : Int) + 1))) (.inl rfl) (cells_nowalk hst7.h))
            obtain ⟨W8, hW8⟩ : ∃ W8, W7.setCell ⟨bh, 3, none⟩ (.int .i64 ((C : Int) + 1)) = W8 := ⟨_, rfl⟩
            rw [hW8] at hst8 hB8 hq8
            clear hst7 hB7 hq7 hcl hc3
            gi_wp2
            obtain ⟨Wa, hWa⟩ : ∃ Wa, W8.drew.alloc (.cells #[.int .i64 ((B : Int) + (d : Int)), .int .i64 (n + 1 : Nat), .int .i64 (U + u1 : Nat), .int .i64 ((C : Int) + 1), .int .i64 (L1 : Nat), .int .i64 (K1 : Nat)] 29) = Wa := ⟨_, rfl⟩
            have hbWa : Below W8.heap.size W8 Wa := by rw [← hWa]; exact ((Below.refl _ W8).drew).alloc (Nat.le_refl _) _
            have hsa := hst8.kept (grown_below hbWa) (fun r e => by cases e)
            have hcn : ∀ j u, ([.int .i64 ((B : Int) + (d : Int)), .int .i64 (n + 1 : Nat), .int .i64 (U + u1 : Nat), .int .i64 ((C : Int) + 1), .int .i64 (L1 : Nat), .int .i64 (K1 : Nat)] : List Value)[j]? = some u → Wa.cell? ((⟨W8.heap.size, 0, none⟩ : Addr).add j) = some u := by rw [← hWa]; exact new_six W8.drew _ _ _ _ _ _ _
            obtain ⟨Wc, hrun, hoc, hgc⟩ := run_append_fits (P := Try.prog) Wa 0 36 36 29 i0 6 Try.underlying36 hi hz1 g n (pN s) _ hsa.g ⟨W8.heap.size, 0, none⟩ 1 1 [.int .i64 ((B : Int) + (d : Int)), .int .i64 (n + 1 : Nat), .int .i64 (U + u1 : Nat), .int .i64 ((C : Int) + 1), .int .i64 (L1 : Nat), .int .i64 (K1 : Nat)] rfl hcn (by simp [Value.oneCell']) (by have := unhide HnN; omega)
            have hpc : Wc.heap[p]? = some (.cells #[.string s, .slice (some ⟨g, 0, none⟩) n (pN s)] 38 (0, 0)) := (hgc.block p (Array.getElem?_eq_some_iff.1 hsa.p).1 (fun e => hpg (Option.some.inj e))).trans hsa.p
            have hmc := hsa.m.kept hgc (fun e => hmg (Option.some.inj e))
            have htc := hsa.t.kept hgc (fun e => by have := Option.some.inj e; omega)
            have hhc := (hgc.block bh hsa.h.lt (fun e => by have := Option.some.inj e; omega)).trans hsa.h
            have hBc := (bnext hB8 hbWa).grown hgc (bnext hB8 hbWa).size (fun k e => by cases e; omega)
            have hqc := (hq8.trans (KQ.below hbWa)).trans (KQ.grown hgc (.inr (.inr rfl)) (row_nowalk hsa.g rfl))
            obtain ⟨Jo, hJo⟩ : ∃ Jo : (Nat → Bool) → World → Prop, Jo = fun f w => w = if f 7 then Wc else if f 6 then Wa else W8.drew := ⟨_, rfl⟩
            have Jof : ∀ f w, Jo f w = (w = if f 7 then Wc else if f 6 then Wa else W8.drew) := fun f w => by rw [hJo]
            have hJm : ∀ f w, Jo f w → Boxed w m 23 (.pointer (some ⟨p, 0, none⟩)) ∧ w.heap[p]? = some (.cells #[.string s, .slice (some ⟨g, 0, none⟩) n (pN s)] 38 (0, 0)) ∧ Box6 w bh (.int .i64 ((B : Int) + (d : Int))) (.int .i64 (n + 1 : Nat)) (.int .i64 (U + u1 : Nat)) (.int .i64 ((C : Int) + 1)) (.int .i64 (L1 : Nat)) (.int .i64 (K1 : Nat)) := by
              intro f w h
              rw [Jof] at h
              subst h
              split
              · exact ⟨hmc, hpc, hhc⟩
              · split
                · exact ⟨hsa.m, hsa.p, hsa.h⟩
                · exact ⟨hst8.m, hst8.p, hst8.h⟩
            refine wpIn_region_any (by kernel_rfl) ?_
            change wpAnyIn _ _ _ _ _ _ _ _ _ (World.drew _)
            refine region_st (fun _ => trivial) rfl 70 (fun j => 59 + j) ((0, (Value.string s)) :: (1, (Value.pointer (some { block := bt, off := 0 }))) :: (2, (Value.pointer none)) :: (3, (Value.pointer (some { block := m, off := 0 }))) :: (4, (Value.pointer (some { block := bh, off := 0 }))) :: (5, undef) :: (6, (Value.pointer (some { block := b, off := 0 }))) :: (7, (Value.int IntKind.i64 ↑i)) :: (8, (Value.int IntKind.i32 ↑R)) :: (9, (Value.int IntKind.i32 ↑R)) :: (10, (Value.int IntKind.i64 ↑d)) :: (11, (Value.bool k)) :: (12, (Value.string s)) :: (13, (Value.string s)) :: (14, (Value.int IntKind.i64 ↑(pN s))) :: (15, v15) :: (16, v16) :: (17, (Value.pointer (some { block := p, off := 0 }))) :: (18, (Value.pointer (some { block := p, off := 0 }))) :: (19, (Value.agg #[Value.int IntKind.i64 0, Value.int IntKind.i64 0, Value.int IntKind.i64 0, Value.int IntKind.i64 0, Value.int IntKind.i64 1, Value.int IntKind.i64 1])) :: (20, (Value.string s)) :: (21, (Value.func (Fn.func 35) #[] #[Value.pointer (some { block := bh + 1, off := 0 })])) :: (22, (Value.int IntKind.i64 ↑ca)) :: (23, (Value.string t)) :: (24, (Value.string t)) :: (25, (Value.func (Fn.func 38) #[] #[Value.pointer (some { block := B2, off := 0 })])) :: (26, (Value.int IntKind.i64 ↑i)) :: (27, (Value.int IntKind.i32 ↑R)) :: (28, (Value.tuple #[Value.int IntKind.i32 ↑R, Value.int IntKind.i64 ↑d, Value.bool k])) :: (29, (Value.string t)) :: (30, (Value.int IntKind.i64 ↑i)) :: (31, (Value.tuple #[Value.int IntKind.i32 ↑R, Value.int IntKind.i64 ↑d, Value.bool k])) :: (32, (Value.int IntKind.i32 ↑R)) :: (33, (Value.int IntKind.i64 ↑d)) :: (34, (Value.bool k)) :: (35, (Value.agg #[Value.int IntKind.i64 ↑B, Value.int IntKind.i64 ↑n, Value.int IntKind.i64 ↑U, Value.int IntKind.i64 ↑C, Value.int IntKind.i64 ↑L, Value.int IntKind.i64 ↑K0])) :: (36, (Value.int IntKind.i32 ↑R)) :: (37, (Value.string s)) :: (38, (Value.pointer (some { block := bh, off := 0 }))) :: (39, (Value.int IntKind.i64 ↑B)) :: (40, (Value.int IntKind.i64 ↑d)) :: (41, (Value.int IntKind.i64 (↑B + ↑d))) :: (42, (Value.string (s.extract (B + d) s.size))) :: (43, (Value.agg #[Value.int IntKind.i64 ↑B, Value.int IntKind.i64 ↑(n + 1), Value.int IntKind.i64 ↑(U + u1), Value.int IntKind.i64 ↑C, Value.int IntKind.i64 ↑L1, Value.int IntKind.i64 ↑K1])) :: (44, (Value.pointer (some { block := bh, off := 0 }))) :: (45, (Value.int IntKind.i64 ↑B)) :: (46, (Value.int IntKind.i64 ↑d)) :: (47, (Value.int IntKind.i64 (↑B + ↑d))) :: (48, (Value.pointer (some { block := bh, off := 0 }))) :: (49, (Value.int IntKind.i64 ↑i)) :: (50, (Value.int IntKind.i64 ↑d)) :: (51, (Value.int IntKind.i64 (↑i + ↑d))) :: (52, (Value.string t)) :: (53, (Value.int IntKind.i64 ↑(cb - ca))) :: (54, (Value.bool ((i : Int) + (d : Int) == ((cb - ca : Nat) : Int)))) :: (55, (Value.pointer (some { block := bh, off := 3 }))) :: (56, (Value.int IntKind.i64 ↑C)) :: (57, (Value.int IntKind.i64 (↑C + 1))) :: (58, (Value.pointer (some { block := bh, off := 3 }))) :: (69, undef) :: [])
              Jo
              (valsOf [isV (.pointer (some ⟨p, 0, none⟩)), isV (.pointer (some ⟨p, 0, none⟩)), isV (.pointer (some ⟨p, 0, none⟩)), isV (.pointer (some ⟨p, 1, none⟩)), isV (.slice (some ⟨g, 0, none⟩) n (pN s)), isV (.agg #[.int .i64 ((B : Int) + (d : Int)), .int .i64 (n + 1 : Nat), .int .i64 (U + u1 : Nat), .int .i64 ((C : Int) + 1), .int .i64 (L1 : Nat), .int .i64 (K1 : Nat)]), isV (.slice (some ⟨W8.heap.size, 0, none⟩) 1 1), isV (.slice (some ⟨g, 0, none⟩) (n + 1) (pN s)), isV (.pointer (some ⟨p, 0, none⟩)), isV (.pointer (some ⟨p, 1, none⟩))])
              (fun _ _ => True) [] ?pos ?fit ?last (fun j f => valsOf_stable (Stables.all ?stable) j) ?steps 36 (.tmp 68) (.tmp 66) rfl ?fin _ _ ?sz rfl ?base ?start
            case pos => decide
            case fit => kernel_rfl
            case last => kernel_rfl
            case sz => rfl
            case base => intro p hp; repeat (first | (rcases List.mem_cons.1 hp with rfl | hp; · rfl) | cases hp)
            case stable => repeat (first | exact .nil | refine .same ?_)
            case start => rw [Jof]; simp
            case steps =>
              refine .cons (fun hlt f ρ wz hno hyes hρ hJ hb hd => by
                have d0 : ρ (.tmp 3) = (Value.pointer (some { block := m, off := 0 })) := hb (3, _) (List.mem_of_getElem? (i := 3) rfl)
                have c1 := (hJm f wz hJ).1.cell
                exact stepIn_val (v := (.pointer (some ⟨p, 0, none⟩))) (w' := wz) (fun c e => by cases e) (by simp [go_sem, execOp, d0, c1]) ⟨trivial, by rw [Jof] at hJ ⊢; simpa using hJ, rfl⟩) ?_
              refine .cons (fun hlt f ρ wz hno hyes hρ hJ hb hd => by
                have d0 : ρ (.tmp 3) = (Value.pointer (some { block := m, off := 0 })) := hb (3, _) (List.mem_of_getElem? (i := 3) rfl)
                have c1 := (hJm f wz hJ).1.cell
                exact stepIn_val (v := (.pointer (some ⟨p, 0, none⟩))) (w' := wz) (fun c e => by cases e) (by simp [go_sem, execOp, d0, c1]) ⟨trivial, by rw [Jof] at hJ ⊢; simpa using hJ, rfl⟩) ?_
              refine .cons (fun hlt f ρ wz hno hyes hρ hJ hb hd => by
                have d0 : ρ (.tmp 60) = (.pointer (some ⟨p, 0, none⟩)) := hd 0 _ rfl rfl
                exact stepIn_val (v := (.pointer (some ⟨p, 0, none⟩))) (w' := wz) (fun c e => by cases e) (by simp [go_sem, execOp, d0, hρ.const]) ⟨trivial, by rw [Jof] at hJ ⊢; simpa using hJ, rfl⟩) ?_
              refine .cons (fun hlt f ρ wz hno hyes hρ hJ hb hd => by
                have d0 : ρ (.tmp 61) = (.pointer (some ⟨p, 0, none⟩)) := hd 0 _ rfl rfl
                exact stepIn_val (v := (.pointer (some ⟨p, 1, none⟩))) (w' := wz) (fun c e => by cases e) (by simp [go_sem, execOp, d0, hρ.const]) ⟨trivial, by rw [Jof] at hJ ⊢; simpa using hJ, rfl⟩) ?_
              refine .cons (fun hlt f ρ wz hno hyes hρ hJ hb hd => by
                have d0 : ρ (.tmp 62) = (.pointer (some ⟨p, 1, none⟩)) := hd 0 _ rfl rfl
                have c1 := (hJm f wz hJ).2.1
                exact stepIn_val (v := (.slice (some ⟨g, 0, none⟩) n (pN s))) (w' := wz) (fun c e => by cases e) (by simp [go_sem, execOp, d0, World.cell?, c1]) ⟨trivial, by rw [Jof] at hJ ⊢; simpa using hJ, rfl⟩) ?_
              refine .cons (fun hlt f ρ wz hno hyes hρ hJ hb hd => by
                have d0 : ρ (.tmp 4) = (Value.pointer (some { block := bh, off := 0 })) := hb (4, _) (List.mem_of_getElem? (i := 4) rfl)
                obtain ⟨c0, c1, c2, c3, c4, c5, _⟩ := (hJm f wz hJ).2.2.facts
                exact stepIn_val (v := (.agg #[.int .i64 ((B : Int) + (d : Int)), .int .i64 (n + 1 : Nat), .int .i64 (U + u1 : Nat), .int .i64 ((C : Int) + 1), .int .i64 (L1 : Nat), .int .i64 (K1 : Nat)])) (w' := wz) (fun c e => by cases e) (by simp [go_sem, execOp, d0, c0, c1, c2, c3, c4, c5]) ⟨trivial, by rw [Jof] at hJ ⊢; simpa using hJ, rfl⟩) ?_
              refine .cons (fun hlt f ρ wz hno hyes hρ hJ hb hd => by
                have d0 : ρ (.tmp 64) = (.agg #[.int .i64 ((B : Int) + (d : Int)), .int .i64 (n + 1 : Nat), .int .i64 (U + u1 : Nat), .int .i64 ((C : Int) + 1), .int .i64 (L1 : Nat), .int .i64 (K1 : Nat)]) := hd 0 _ rfl rfl
                have e1 : wz = W8.drew := by
                  rw [Jof] at hJ
                  simpa [hno 7 (.inr (by kernel_rfl)), hno 6 (.inl rfl)] using hJ
                subst e1
                exact stepIn_val (v := (.slice (some ⟨W8.heap.size, 0, none⟩) 1 1)) (w' := Wa) (fun c e => by cases e) (by rw [← hWa]; simp [go_sem, execOp, d0]) ⟨trivial, by rw [Jof]; simp [hno 7 (.inr (by kernel_rfl))], rfl⟩) ?_
              refine .cons (fun hlt f ρ wz hno hyes hρ hJ hb hd => by
                have d0 : ρ (.tmp 63) = (.slice (some ⟨g, 0, none⟩) n (pN s)) := hd 0 _ rfl rfl
                have d1 : ρ (.tmp 65) = (.slice (some ⟨W8.heap.size, 0, none⟩) 1 1) := hd 1 _ rfl rfl
                have e1 : wz = Wa := by
                  rw [Jof] at hJ
                  simpa [hno 7 (.inl rfl), show f 6 = true from hyes 1 _ rfl rfl] using hJ
                subst e1
                exact stepIn_val (v := (.slice (some ⟨g, 0, none⟩) (n + 1) (pN s))) (w' := Wc) (fun c e => by cases e) (run_append (.tmp 63) (.tmp 65) 36 rfl d0 d1 hrun) ⟨trivial, by rw [Jof]; simp, rfl⟩) ?_
              refine .cons (fun hlt f ρ wz hno hyes hρ hJ hb hd => by
                have d0 : ρ (.tmp 59) = (.pointer (some ⟨p, 0, none⟩)) := hd 0 _ rfl rfl
                exact stepIn_val (v := (.pointer (some ⟨p, 0, none⟩))) (w' := wz) (fun c e => by cases e) (by simp [go_sem, execOp, d0, hρ.const]) ⟨trivial, by rw [Jof] at hJ ⊢; simpa using hJ, rfl⟩) ?_
              refine .cons (fun hlt f ρ wz hno hyes hρ hJ hb hd => by
                have d0 : ρ (.tmp 67) = (.pointer (some ⟨p, 0, none⟩)) := hd 0 _ rfl rfl
                exact stepIn_val (v := (.pointer (some ⟨p, 1, none⟩))) (w' := wz) (fun c e => by cases e) (by simp [go_sem, execOp, d0, hρ.const]) ⟨trivial, by rw [Jof] at hJ ⊢; simpa using hJ, rfl⟩) ?_
              refine .cons (fun h => absurd h (by decide)) (.nil _)
            case fin =>
              intro a W5 hsz2 hds hb hJ hv
              obtain rfl := frame_of (((0, (Value.string s)) :: (1, (Value.pointer (some { block := bt, off := 0 }))) :: (2, (Value.pointer none)) :: (3, (Value.pointer (some { block := m, off := 0 }))) :: (4, (Value.pointer (some { block := bh, off := 0 }))) :: (5, undef) :: (6, (Value.pointer (some { block := b, off := 0 }))) :: (7, (Value.int IntKind.i64 ↑i)) :: (8, (Value.int IntKind.i32 ↑R)) :: (9, (Value.int IntKind.i32 ↑R)) :: (10, (Value.int IntKind.i64 ↑d)) :: (11, (Value.bool k)) :: (12, (Value.string s)) :: (13, (Value.string s)) :: (14, (Value.int IntKind.i64 ↑(pN s))) :: (15, v15) :: (16, v16) :: (17, (Value.pointer (some { block := p, off := 0 }))) :: (18, (Value.pointer (some { block := p, off := 0 }))) :: (19, (Value.agg #[Value.int IntKind.i64 0, Value.int IntKind.i64 0, Value.int IntKind.i64 0, Value.int IntKind.i64 0, Value.int IntKind.i64 1, Value.int IntKind.i64 1])) :: (20, (Value.string s)) :: (21, (Value.func (Fn.func 35) #[] #[Value.pointer (some { block := bh + 1, off := 0 })])) :: (22, (Value.int IntKind.i64 ↑ca)) :: (23, (Value.string t)) :: (24, (Value.string t)) :: (25, (Value.func (Fn.func 38) #[] #[Value.pointer (some { block := B2, off := 0 })])) :: (26, (Value.int IntKind.i64 ↑i)) :: (27, (Value.int IntKind.i32 ↑R)) :: (28, (Value.tuple #[Value.int IntKind.i32 ↑R, Value.int IntKind.i64 ↑d, Value.bool k])) :: (29, (Value.string t)) :: (30, (Value.int IntKind.i64 ↑i)) :: (31, (Value.tuple #[Value.int IntKind.i32 ↑R, Value.int IntKind.i64 ↑d, Value.bool k])) :: (32, (Value.int IntKind.i32 ↑R)) :: (33, (Value.int IntKind.i64 ↑d)) :: (34, (Value.bool k)) :: (35, (Value.agg #[Value.int IntKind.i64 ↑B, Value.int IntKind.i64 ↑n, Value.int IntKind.i64 ↑U, Value.int IntKind.i64 ↑C, Value.int IntKind.i64 ↑L, Value.int IntKind.i64 ↑K0])) :: (36, (Value.int IntKind.i32 ↑R)) :: (37, (Value.string s)) :: (38, (Value.pointer (some { block := bh, off := 0 }))) :: (39, (Value.int IntKind.i64 ↑B)) :: (40, (Value.int IntKind.i64 ↑d)) :: (41, (Value.int IntKind.i64 (↑B + ↑d))) :: (42, (Value.string (s.extract (B + d) s.size))) :: (43, (Value.agg #[Value.int IntKind.i64 ↑B, Value.int IntKind.i64 ↑(n + 1), Value.int IntKind.i64 ↑(U + u1), Value.int IntKind.i64 ↑C, Value.int IntKind.i64 ↑L1, Value.int IntKind.i64 ↑K1])) :: (44, (Value.pointer (some { block := bh, off := 0 }))) :: (45, (Value.int IntKind.i64 ↑B)) :: (46, (Value.int IntKind.i64 ↑d)) :: (47, (Value.int IntKind.i64 (↑B + ↑d))) :: (48, (Value.pointer (some { block := bh, off := 0 }))) :: (49, (Value.int IntKind.i64 ↑i)) :: (50, (Value.int IntKind.i64 ↑d)) :: (51, (Value.int IntKind.i64 (↑i + ↑d))) :: (52, (Value.string t)) :: (53, (Value.int IntKind.i64 ↑(cb - ca))) :: (54, (Value.bool ((i : Int) + (d : Int) == ((cb - ca : Nat) : Int)))) :: (55, (Value.pointer (some { block := bh, off := 3 }))) :: (56, (Value.int IntKind.i64 ↑C)) :: (57, (Value.int IntKind.i64 (↑C + 1))) :: (58, (Value.pointer (some { block := bh, off := 3 }))) :: (69, undef) :: []) ++ [(59, (.pointer (some ⟨p, 0, none⟩))), (60, (.pointer (some ⟨p, 0, none⟩))), (61, (.pointer (some ⟨p, 0, none⟩))), (62, (.pointer (some ⟨p, 1, none⟩))), (63, (.slice (some ⟨g, 0, none⟩) n (pN s))), (64, (.agg #[.int .i64 ((B : Int) + (d : Int)), .int .i64 (n + 1 : Nat), .int .i64 (U + u1 : Nat), .int .i64 ((C : Int) + 1), .int .i64 (L1 : Nat), .int .i64 (K1 : Nat)])), (65, (.slice (some ⟨W8.heap.size, 0, none⟩) 1 1)), (66, (.slice (some ⟨g, 0, none⟩) (n + 1) (pN s))), (67, (.pointer (some ⟨p, 0, none⟩))), (68, (.pointer (some ⟨p, 1, none⟩)))]) ((Value.string s) :: (Value.pointer (some { block := bt, off := 0 })) :: (Value.pointer none) :: (Value.pointer (some { block := m, off := 0 })) :: (Value.pointer (some { block := bh, off := 0 })) :: undef :: (Value.pointer (some { block := b, off := 0 })) :: (Value.int IntKind.i64 ↑i) :: (Value.int IntKind.i32 ↑R) :: (Value.int IntKind.i32 ↑R) :: (Value.int IntKind.i64 ↑d) :: (Value.bool k) :: (Value.string s) :: (Value.string s) :: (Value.int IntKind.i64 ↑(pN s)) :: v15 :: v16 :: (Value.pointer (some { block := p, off := 0 })) :: (Value.pointer (some { block := p, off := 0 })) :: (Value.agg #[Value.int IntKind.i64 0, Value.int IntKind.i64 0, Value.int IntKind.i64 0, Value.int IntKind.i64 0, Value.int IntKind.i64 1, Value.int IntKind.i64 1]) :: (Value.string s) :: (Value.func (Fn.func 35) #[] #[Value.pointer (some { block := bh + 1, off := 0 })]) :: (Value.int IntKind.i64 ↑ca) :: (Value.string t) :: (Value.string t) :: (Value.func (Fn.func 38) #[] #[Value.pointer (some { block := B2, off := 0 })]) :: (Value.int IntKind.i64 ↑i) :: (Value.int IntKind.i32 ↑R) :: (Value.tuple #[Value.int IntKind.i32 ↑R, Value.int IntKind.i64 ↑d, Value.bool k]) :: (Value.string t) :: (Value.int IntKind.i64 ↑i) :: (Value.tuple #[Value.int IntKind.i32 ↑R, Value.int IntKind.i64 ↑d, Value.bool k]) :: (Value.int IntKind.i32 ↑R) :: (Value.int IntKind.i64 ↑d) :: (Value.bool k) :: (Value.agg #[Value.int IntKind.i64 ↑B, Value.int IntKind.i64 ↑n, Value.int IntKind.i64 ↑U, Value.int IntKind.i64 ↑C, Value.int IntKind.i64 ↑L, Value.int IntKind.i64 ↑K0]) :: (Value.int IntKind.i32 ↑R) :: (Value.string s) :: (Value.pointer (some { block := bh, off := 0 })) :: (Value.int IntKind.i64 ↑B) :: (Value.int IntKind.i64 ↑d) :: (Value.int IntKind.i64 (↑B + ↑d)) :: (Value.string (s.extract (B + d) s.size)) :: (Value.agg #[Value.int IntKind.i64 ↑B, Value.int IntKind.i64 ↑(n + 1), Value.int IntKind.i64 ↑(U + u1), Value.int IntKind.i64 ↑C, Value.int IntKind.i64 ↑L1, Value.int IntKind.i64 ↑K1]) :: (Value.pointer (some { block := bh, off := 0 })) :: (Value.int IntKind.i64 ↑B) :: (Value.int IntKind.i64 ↑d) :: (Value.int IntKind.i64 (↑B + ↑d)) :: (Value.pointer (some { block := bh, off := 0 })) :: (Value.int IntKind.i64 ↑i) :: (Value.int IntKind.i64 ↑d) :: (Value.int IntKind.i64 (↑i + ↑d)) :: (Value.string t) :: (Value.int IntKind.i64 ↑(cb - ca)) :: (Value.bool ((i : Int) + (d : Int) == ((cb - ca : Nat) : Int))) :: (Value.pointer (some { block := bh, off := 3 })) :: (Value.int IntKind.i64 ↑C) :: (Value.int IntKind.i64 (↑C + 1)) :: (Value.pointer (some { block := bh, off := 3 })) :: (.pointer (some ⟨p, 0, none⟩)) :: (.pointer (some ⟨p, 0, none⟩)) :: (.pointer (some ⟨p, 0, none⟩)) :: (.pointer (some ⟨p, 1, none⟩)) :: (.slice (some ⟨g, 0, none⟩) n (pN s)) :: (.agg #[.int .i64 ((B : Int) + (d : Int)), .int .i64 (n + 1 : Nat), .int .i64 (U + u1 : Nat), .int .i64 ((C : Int) + 1), .int .i64 (L1 : Nat), .int .i64 (K1 : Nat)]) :: (.slice (some ⟨W8.heap.size, 0, none⟩) 1 1) :: (.slice (some ⟨g, 0, none⟩) (n + 1) (pN s)) :: (.pointer (some ⟨p, 0, none⟩)) :: (.pointer (some ⟨p, 1, none⟩)) :: undef :: []) hsz2 hds (fun p hp => by
                rcases List.mem_append.1 hp with h | h
                · exact hb p h
                · simp only [List.mem_cons, List.not_mem_nil, or_false] at h
                  rcases h with rfl | rfl | rfl | rfl | rfl | rfl | rfl | rfl | rfl | rfl
                  · exact hv 0 (by decide)
                  · exact hv 1 (by decide)
                  · exact hv 2 (by decide)
                  · exact hv 3 (by decide)
                  · exact hv 4 (by decide)
                  · exact hv 5 (by decide)
                  · exact hv 6 (by decide)
                  · exact hv 7 (by decide)
                  · exact hv 8 (by decide)
                  · exact hv 9 (by decide)) rfl
              clear hb hv hds hsz2
              obtain ⟨f, hf, _, hJ⟩ := hJ
              obtain rfl : W5 = Wc := by rw [Jof, hf 7 (by decide)] at hJ; simpa using hJ
              have cp1 : W5.cell? ⟨p, 1, none⟩ = some (.slice (some ⟨g, 0, none⟩) n (pN s)) := by simp [World.cell?, hpc]
              have fp1 : W5.frozen? ⟨p, 1, none⟩ = false := by simp [World.frozen?, hpc]
              have hGp := grown_set W5 p 1 (.slice (some ⟨g, 0, none⟩) (n + 1) (pN s))
              refine ⟨W5.setCell ⟨p, 1, none⟩ (.slice (some ⟨g, 0, none⟩) (n + 1) (pN s)), by simp [go_sem, Act.eval, cp1, fp1], ?_⟩
              have hend := unhide Hfin _ (hqc.trans (KQ.grown hGp (.inr (.inl rfl)) (cells_nowalk hpc))) (unhide Hst1 _ ⟨htc.kept hGp (fun e => by have := Option.some.inj e; omega), hmc.kept hGp (fun e => hmp (Option.some.inj e)), (hGp.block bh (Array.getElem?_eq_some_iff.1 hhc).1 (fun e => by have := Option.some.inj e; omega)).trans hhc, heap_set 1 _ hpc, (show W5.ownsRow 0 29 6 (.slice (some ⟨g, 0, none⟩) (n + 1) (pN s)) (n + 1) (spF s (n + 1)) by rw [spF_succ, unhide Hspc]; exact hoc).kept hGp (.inr (fun e => hpg (Option.some.inj (by simpa [Value.ownBlock] using e)).symm))⟩) (hBc.setCell (p := ⟨p, 1, none⟩) (by show w.heap.size ≤ p; omega) _)
              exact hend
          · have i1 : ((i : Int) + (d : Int) == (t.size : Int)) = false := by rw [beq_eq_false_iff_ne]; omega
            rw [if_neg hcl, Nat.add_zero] at Hst1 Hspc
            clear hcl
            gi_wp2
            obtain ⟨Wa, hWa⟩ : ∃ Wa, W7.drew.alloc (.cells #[.int .i64 ((B : Int) + (d : Int)), .int .i64 (n + 1 : Nat), .int .i64 (U + u1 : Nat), .int .i64 (C : Nat), .int .i64 (L1 : Nat), .int .i64 (K1 : Nat)] 29) = Wa := ⟨_, rfl⟩
            have hbWa : Below W7.heap.size W7 Wa := by rw [← hWa]; exact ((Below.refl _ W7).drew).alloc (Nat.le_refl _) _
            have hsa := hst7.kept (grown_below hbWa) (fun r e => by cases e)
            have hcn : ∀ j u, ([.int .i64 ((B : Int) + (d : Int)), .int .i64 (n + 1 : Nat), .int .i64 (U + u1 : Nat), .int .i64 (C : Nat), .int .i64 (L1 : Nat), .int .i64 (K1 : Nat)] : List Value)[j]? = some u → Wa.cell? ((⟨W7.heap.size, 0, none⟩ : Addr).add j) = some u := by rw [← hWa]; exact new_six W7.drew _ _ _ _ _ _ _
            obtain ⟨Wc, hrun, hoc, hgc⟩ := run_append_fits (P := Try.prog) Wa 0 36 36 29 i0 6 Try.underlying36 hi hz1 g n (pN s) _ hsa.g ⟨W7.heap.size, 0, none⟩ 1 1 [.int .i64 ((B : Int) + (d : Int)), .int .i64 (n + 1 : Nat), .int .i64 (U + u1 : Nat), .int .i64 (C : Nat), .int .i64 (L1 : Nat), .int .i64 (K1 : Nat)] rfl hcn (by simp [Value.oneCell']) (by have := unhide HnN; omega)
            have hpc : Wc.heap[p]? = some (.cells #[.string s, .slice (some ⟨g, 0, none⟩) n (pN s)] 38 (0, 0)) := (hgc.block p (Array.getElem?_eq_some_iff.1 hsa.p).1 (fun e => hpg (Option.some.inj e))).trans hsa.p
            have hmc := hsa.m.kept hgc (fun e => hmg (Option.some.inj e))
            have htc := hsa.t.kept hgc (fun e => by have := Option.some.inj e; omega)
            have hhc := (hgc.block bh hsa.h.lt (fun e => by have := Option.some.inj e; omega)).trans hsa.h
            have hBc := (bnext hB7 hbWa).grown hgc (bnext hB7 hbWa).size (fun k e => by cases e; omega)
            have hqc := (hq7.trans (KQ.below hbWa)).trans (KQ.grown hgc (.inr (.inr rfl)) (row_nowalk hsa.g rfl))
            obtain ⟨Jo, hJo⟩ : ∃ Jo : (Nat → Bool) → World → Prop, Jo = fun f w => w = if f 7 then Wc else if f 6 then Wa else W7.drew := ⟨_, rfl⟩
            have Jof : ∀ f w, Jo f w = (w = if f 7 then Wc else if f 6 then Wa else W7.drew) := fun f w => by rw [hJo]
            have hJm : ∀ f w, Jo f w → Boxed w m 23 (.pointer (some ⟨p, 0, none⟩)) ∧ w.heap[p]? = some (.cells #[.string s, .slice (some ⟨g, 0, none⟩) n (pN s)] 38 (0, 0)) ∧ Box6 w bh (.int .i64 ((B : Int) + (d : Int))) (.int .i64 (n + 1 : Nat)) (.int .i64 (U + u1 : Nat)) (.int .i64 (C : Nat)) (.int .i64 (L1 : Nat)) (.int .i64 (K1 : Nat)) := by
              intro f w h
              rw [Jof] at h
              subst h
              split
              · exact ⟨hmc, hpc, hhc⟩
              · split
                · exact ⟨hsa.m, hsa.p, hsa.h⟩
                · exact ⟨hst7.m, hst7.p, hst7.h⟩
            refine wpIn_region_any (by kernel_rfl) ?_
            change wpAnyIn _ _ _ _ _ _ _ _ _ (World.drew _)
            refine region_st (fun _ => trivial) rfl 70 (fun j => 59 + j) ((0, (Value.string s)) :: (1, (Value.pointer (some { block := bt, off := 0 }))) :: (2, (Value.pointer none)) :: (3, (Value.pointer (some { block := m, off := 0 }))) :: (4, (Value.pointer (some { block := bh, off := 0 }))) :: (5, undef) :: (6, (Value.pointer (some { block := b, off := 0 }))) :: (7, (Value.int IntKind.i64 ↑i)) :: (8, (Value.int IntKind.i32 ↑R)) :: (9, (Value.int IntKind.i32 ↑R)) :: (10, (Value.int IntKind.i64 ↑d)) :: (11, (Value.bool k)) :: (12, (Value.string s)) :: (13, (Value.string s)) :: (14, (Value.int IntKind.i64 ↑(pN s))) :: (15, v15) :: (16, v16) :: (17, (Value.pointer (some { block := p, off := 0 }))) :: (18, (Value.pointer (some { block := p, off := 0 }))) :: (19, (Value.agg #[Value.int IntKind.i64 0, Value.int IntKind.i64 0, Value.int IntKind.i64 0, Value.int IntKind.i64 0, Value.int IntKind.i64 1, Value.int IntKind.i64 1])) :: (20, (Value.string s)) :: (21, (Value.func (Fn.func 35) #[] #[Value.pointer (some { block := bh + 1, off := 0 })])) :: (22, (Value.int IntKind.i64 ↑ca)) :: (23, (Value.string t)) :: (24, (Value.string t)) :: (25, (Value.func (Fn.func 38) #[] #[Value.pointer (some { block := B2, off := 0 })])) :: (26, (Value.int IntKind.i64 ↑i)) :: (27, (Value.int IntKind.i32 ↑R)) :: (28, (Value.tuple #[Value.int IntKind.i32 ↑R, Value.int IntKind.i64 ↑d, Value.bool k])) :: (29, (Value.string t)) :: (30, (Value.int IntKind.i64 ↑i)) :: (31, (Value.tuple #[Value.int IntKind.i32 ↑R, Value.int IntKind.i64 ↑d, Value.bool k])) :: (32, (Value.int IntKind.i32 ↑R)) :: (33, (Value.int IntKind.i64 ↑d)) :: (34, (Value.bool k)) :: (35, (Value.agg #[Value.int IntKind.i64 ↑B, Value.int IntKind.i64 ↑n, Value.int IntKind.i64 ↑U, Value.int IntKind.i64 ↑C, Value.int IntKind.i64 ↑L, Value.int IntKind.i64 ↑K0])) :: (36, (Value.int IntKind.i32 ↑R)) :: (37, (Value.string s)) :: (38, (Value.pointer (some { block := bh, off := 0 }))) :: (39, (Value.int IntKind.i64 ↑B)) :: (40, (Value.int IntKind.i64 ↑d)) :: (41, (Value.int IntKind.i64 (↑B + ↑d))) :: (42, (Value.string (s.extract (B + d) s.size))) :: (43, (Value.agg #[Value.int IntKind.i64 ↑B, Value.int IntKind.i64 ↑(n + 1), Value.int IntKind.i64 ↑(U + u1), Value.int IntKind.i64 ↑C, Value.int IntKind.i64 ↑L1, Value.int IntKind.i64 ↑K1])) :: (44, (Value.pointer (some { block := bh, off := 0 }))) :: (45, (Value.int IntKind.i64 ↑B)) :: (46, (Value.int IntKind.i64 ↑d)) :: (47, (Value.int IntKind.i64 (↑B + ↑d))) :: (48, (Value.pointer (some { block := bh, off := 0 }))) :: (49, (Value.int IntKind.i64 ↑i)) :: (50, (Value.int IntKind.i64 ↑d)) :: (51, (Value.int IntKind.i64 (↑i + ↑d))) :: (52, (Value.string t)) :: (53, (Value.int IntKind.i64 ↑(cb - ca))) :: (54, (Value.bool ((i : Int) + (d : Int) == ((cb - ca : Nat) : Int)))) :: (55, undef) :: (56, undef) :: (57, undef) :: (58, undef) :: (69, undef) :: [])
              Jo
              (valsOf [isV (.pointer (some ⟨p, 0, none⟩)), isV (.pointer (some ⟨p, 0, none⟩)), isV (.pointer (some ⟨p, 0, none⟩)), isV (.pointer (some ⟨p, 1, none⟩)), isV (.slice (some ⟨g, 0, none⟩) n (pN s)), isV (.agg #[.int .i64 ((B : Int) + (d : Int)), .int .i64 (n + 1 : Nat), .int .i64 (U + u1 : Nat), .int .i64 (C : Nat), .int .i64 (L1 : Nat), .int .i64 (K1 : Nat)]), isV (.slice (some ⟨W7.heap.size, 0, none⟩) 1 1), isV (.slice (some ⟨g, 0, none⟩) (n + 1) (pN s)), isV (.pointer (some ⟨p, 0, none⟩)), isV (.pointer (some ⟨p, 1, none⟩))])
              (fun _ _ => True) [] ?pos ?fit ?last (fun j f => valsOf_stable (Stables.all ?stable) j) ?steps 36 (.tmp 68) (.tmp 66) rfl ?fin _ _ ?sz rfl ?base ?start
            case pos => decide
            case fit => kernel_rfl
            case last => kernel_rfl
            case sz => rfl
            case base => intro p hp; repeat (first | (rcases List.mem_cons.1 hp with rfl | hp; · rfl) | cases hp)
            case stable => repeat (first | exact .nil | refine .same ?_)
            case start => rw [Jof]; simp
            case steps =>
              refine .cons (fun hlt f ρ wz hno hyes hρ hJ hb hd => by
                have d0 : ρ (.tmp 3) = (Value.pointer (some { block := m, off := 0 })) := hb (3, _) (List.mem_of_getElem? (i := 3) rfl)
                have c1 := (hJm f wz hJ).1.cell
                exact stepIn_val (v := (.pointer (some ⟨p, 0, none⟩))) (w' := wz) (fun c e => by cases e) (by simp [go_sem, execOp, d0, c1]) ⟨trivial, by rw [Jof] at hJ ⊢; simpa using hJ, rfl⟩) ?_
              refine .cons (fun hlt f ρ wz hno hyes hρ hJ hb hd => by
                have d0 : ρ (.tmp 3) = (Value.pointer (some { block := m, off := 0 })) := hb (3, _) (List.mem_of_getElem? (i := 3) rfl)
                have c1 := (hJm f wz hJ).1.cell
                exact stepIn_val (v := (.pointer (some ⟨p, 0, none⟩))) (w' := wz) (fun c e => by cases e) (by simp [go_sem, execOp, d0, c1]) ⟨trivial, by rw [Jof] at hJ ⊢; simpa using hJ, rfl⟩) ?_
              refine .cons (fun hlt f ρ wz hno hyes hρ hJ hb hd => by
                have d0 : ρ (.tmp 60) = (.pointer (some ⟨p, 0, none⟩)) := hd 0 _ rfl rfl
                exact stepIn_val (v := (.pointer (some ⟨p, 0, none⟩))) (w' := wz) (fun c e => by cases e) (by simp [go_sem, execOp, d0, hρ.const]) ⟨trivial, by rw [Jof] at hJ ⊢; simpa using hJ, rfl⟩) ?_
              refine .cons (fun hlt f ρ wz hno hyes hρ hJ hb hd => by
                have d0 : ρ (.tmp 61) = (.pointer (some ⟨p, 0, none⟩)) := hd 0 _ rfl rfl
                exact stepIn_val (v := (.pointer (some ⟨p, 1, none⟩))) (w' := wz) (fun c e => by cases e) (by simp [go_sem, execOp, d0, hρ.const]) ⟨trivial, by rw [Jof] at hJ ⊢; simpa using hJ, rfl⟩) ?_
              refine .cons (fun hlt f ρ wz hno hyes hρ hJ hb hd => by
                have d0 : ρ (.tmp 62) = (.pointer (some ⟨p, 1, none⟩)) := hd 0 _ rfl rfl
                have c1 := (hJm f wz hJ).2.1
                exact stepIn_val (v := (.slice (some ⟨g, 0, none⟩) n (pN s))) (w' := wz) (fun c e => by cases e) (by simp [go_sem, execOp, d0, World.cell?, c1]) ⟨trivial, by rw [Jof] at hJ ⊢; simpa using hJ, rfl⟩) ?_
              refine .cons (fun hlt f ρ wz hno hyes hρ hJ hb hd => by
                have d0 : ρ (.tmp 4) = (Value.pointer (some { block := bh, off := 0 })) := hb (4, _) (List.mem_of_getElem? (i := 4) rfl)
                obtain ⟨c0, c1, c2, c3, c4, c5, _⟩ := (hJm f wz hJ).2.2.facts
                exact stepIn_val (v := (.agg #[.int .i64 ((B : Int) + (d : Int)), .int .i64 (n + 1 : Nat), .int .i64 (U + u1 : Nat), .int .i64 (C : Nat), .int .i64 (L1 : Nat), .int .i64 (K1 : Nat)])) (w' := wz) (fun c e => by cases e) (by simp [go_sem, execOp, d0, c0, c1, c2, c3, c4, c5]) ⟨trivial, by rw [Jof] at hJ ⊢; simpa using hJ, rfl⟩) ?_
              refine .cons (fun hlt f ρ wz hno hyes hρ hJ hb hd => by
                have d0 : ρ (.tmp 64) = (.agg #[.int .i64 ((B : Int) + (d : Int)), .int .i64 (n + 1 : Nat), .int .i64 (U + u1 : Nat), .int .i64 (C : Nat), .int .i64 (L1 : Nat), .int .i64 (K1 : Nat)]) := hd 0 _ rfl rfl
                have e1 : wz = W7.drew := by
                  rw [Jof] at hJ
                  simpa [hno 7 (.inr (by kernel_rfl)), hno 6 (.inl rfl)] using hJ
                subst e1
                exact stepIn_val (v := (.slice (some ⟨W7.heap.size, 0, none⟩) 1 1)) (w' := Wa) (fun c e => by cases e) (by rw [← hWa]; simp [go_sem, execOp, d0]) ⟨trivial, by rw [Jof]; simp [hno 7 (.inr (by kernel_rfl))], rfl⟩) ?_
              refine .cons (fun hlt f ρ wz hno hyes hρ hJ hb hd => by
                have d0 : ρ (.tmp 63) = (.slice (some ⟨g, 0, none⟩) n (pN s)) := hd 0 _ rfl rfl
                have d1 : ρ (.tmp 65) = (.slice (some ⟨W7.heap.size, 0, none⟩) 1 1) := hd 1 _ rfl rfl
                have e1 : wz = Wa := by
                  rw [Jof] at hJ
                  simpa [hno 7 (.inl rfl), show f 6 = true from hyes 1 _ rfl rfl] using hJ
                subst e1
                exact stepIn_val (v := (.slice (some ⟨g, 0, none⟩) (n + 1) (pN s))) (w' := Wc) (fun c e => by cases e) (run_append (.tmp 63) (.tmp 65) 36 rfl d0 d1 hrun) ⟨trivial, by rw [Jof]; simp, rfl⟩) ?_
              refine .cons (fun hlt f ρ wz hno hyes hρ hJ hb hd => by
                have d0 : ρ (.tmp 59) = (.pointer (some ⟨p, 0, none⟩)) := hd 0 _ rfl rfl
                exact stepIn_val (v := (.pointer (some ⟨p, 0, none⟩))) (w' := wz) (fun c e => by cases e) (by simp [go_sem, execOp, d0, hρ.const]) ⟨trivial, by rw [Jof] at hJ ⊢; simpa using hJ, rfl⟩) ?_
              refine .cons (fun hlt f ρ wz hno hyes hρ hJ hb hd => by
                have d0 : ρ (.tmp 67) = (.pointer (some ⟨p, 0, none⟩)) := hd 0 _ rfl rfl
                exact stepIn_val (v := (.pointer (some ⟨p, 1, none⟩))) (w' := wz) (fun c e => by cases e) (by simp [go_sem, execOp, d0, hρ.const]) ⟨trivial, by rw [Jof] at hJ ⊢; simpa using hJ, rfl⟩) ?_
              refine .cons (fun h => absurd h (by decide)) (.nil _)
            case fin =>
              intro a W5 hsz2 hds hb hJ hv
              obtain rfl := frame_of (((0, (Value.string s)) :: (1, (Value.pointer (some { block := bt, off := 0 }))) :: (2, (Value.pointer none)) :: (3, (Value.pointer (some { block := m, off := 0 }))) :: (4, (Value.pointer (some { block := bh, off := 0 }))) :: (5, undef) :: (6, (Value.pointer (some { block := b, off := 0 }))) :: (7, (Value.int IntKind.i64 ↑i)) :: (8, (Value.int IntKind.i32 ↑R)) :: (9, (Value.int IntKind.i32 ↑R)) :: (10, (Value.int IntKind.i64 ↑d)) :: (11, (Value.bool k)) :: (12, (Value.string s)) :: (13, (Value.string s)) :: (14, (Value.int IntKind.i64 ↑(pN s))) :: (15, v15) :: (16, v16) :: (17, (Value.pointer (some { block := p, off := 0 }))) :: (18, (Value.pointer (some { block := p, off := 0 }))) :: (19, (Value.agg #[Value.int IntKind.i64 0, Value.int IntKind.i64 0, Value.int IntKind.i64 0, Value.int IntKind.i64 0, Value.int IntKind.i64 1, Value.int IntKind.i64 1])) :: (20, (Value.string s)) :: (21, (Value.func (Fn.func 35) #[] #[Value.pointer (some { block := bh + 1, off := 0 })])) :: (22, (Value.int IntKind.i64 ↑ca)) :: (23, (Value.string t)) :: (24, (Value.string t)) :: (25, (Value.func (Fn.func 38) #[] #[Value.pointer (some { block := B2, off := 0 })])) :: (26, (Value.int IntKind.i64 ↑i)) :: (27, (Value.int IntKind.i32 ↑R)) :: (28, (Value.tuple #[Value.int IntKind.i32 ↑R, Value.int IntKind.i64 ↑d, Value.bool k])) :: (29, (Value.string t)) :: (30, (Value.int IntKind.i64 ↑i)) :: (31, (Value.tuple #[Value.int IntKind.i32 ↑R, Value.int IntKind.i64 ↑d, Value.bool k])) :: (32, (Value.int IntKind.i32 ↑R)) :: (33, (Value.int IntKind.i64 ↑d)) :: (34, (Value.bool k)) :: (35, (Value.agg #[Value.int IntKind.i64 ↑B, Value.int IntKind.i64 ↑n, Value.int IntKind.i64 ↑U, Value.int IntKind.i64 ↑C, Value.int IntKind.i64 ↑L, Value.int IntKind.i64 ↑K0])) :: (36, (Value.int IntKind.i32 ↑R)) :: (37, (Value.string s)) :: (38, (Value.pointer (some { block := bh, off := 0 }))) :: (39, (Value.int IntKind.i64 ↑B)) :: (40, (Value.int IntKind.i64 ↑d)) :: (41, (Value.int IntKind.i64 (↑B + ↑d))) :: (42, (Value.string (s.extract (B + d) s.size))) :: (43, (Value.agg #[Value.int IntKind.i64 ↑B, Value.int IntKind.i64 ↑(n + 1), Value.int IntKind.i64 ↑(U + u1), Value.int IntKind.i64 ↑C, Value.int IntKind.i64 ↑L1, Value.int IntKind.i64 ↑K1])) :: (44, (Value.pointer (some { block := bh, off := 0 }))) :: (45, (Value.int IntKind.i64 ↑B)) :: (46, (Value.int IntKind.i64 ↑d)) :: (47, (Value.int IntKind.i64 (↑B + ↑d))) :: (48, (Value.pointer (some { block := bh, off := 0 }))) :: (49, (Value.int IntKind.i64 ↑i)) :: (50, (Value.int IntKind.i64 ↑d)) :: (51, (Value.int IntKind.i64 (↑i + ↑d))) :: (52, (Value.string t)) :: (53, (Value.int IntKind.i64 ↑(cb - ca))) :: (54, (Value.bool ((i : Int) + (d : Int) == ((cb - ca : Nat) : Int)))) :: (55, undef) :: (56, undef) :: (57, undef) :: (58, undef) :: (69, undef) :: []) ++ [(59, (.pointer (some ⟨p, 0, none⟩))), (60, (.pointer (some ⟨p, 0, none⟩))), (61, (.pointer (some ⟨p, 0, none⟩))), (62, (.pointer (some ⟨p, 1, none⟩))), (63, (.slice (some ⟨g, 0, none⟩) n (pN s))), (64, (.agg #[.int .i64 ((B : Int) + (d : Int)), .int .i64 (n + 1 : Nat), .int .i64 (U + u1 : Nat), .int .i64 (C : Nat), .int .i64 (L1 : Nat), .int .i64 (K1 : Nat)])), (65, (.slice (some ⟨W7.heap.size, 0, none⟩) 1 1)), (66, (.slice (some ⟨g, 0, none⟩) (n + 1) (pN s))), (67, (.pointer (some ⟨p, 0, none⟩))), (68, (.pointer (some ⟨p, 1, none⟩)))]) ((Value.string s) :: (Value.pointer (some { block := bt, off := 0 })) :: (Value.pointer none) :: (Value.pointer (some { block := m, off := 0 })) :: (Value.pointer (some { block := bh, off := 0 })) :: undef :: (Value.pointer (some { block := b, off := 0 })) :: (Value.int IntKind.i64 ↑i) :: (Value.int IntKind.i32 ↑R) :: (Value.int IntKind.i32 ↑R) :: (Value.int IntKind.i64 ↑d) :: (Value.bool k) :: (Value.string s) :: (Value.string s) :: (Value.int IntKind.i64 ↑(pN s)) :: v15 :: v16 :: (Value.pointer (some { block := p, off := 0 })) :: (Value.pointer (some { block := p, off := 0 })) :: (Value.agg #[Value.int IntKind.i64 0, Value.int IntKind.i64 0, Value.int IntKind.i64 0, Value.int IntKind.i64 0, Value.int IntKind.i64 1, Value.int IntKind.i64 1]) :: (Value.string s) :: (Value.func (Fn.func 35) #[] #[Value.pointer (some { block := bh + 1, off := 0 })]) :: (Value.int IntKind.i64 ↑ca) :: (Value.string t) :: (Value.string t) :: (Value.func (Fn.func 38) #[] #[Value.pointer (some { block := B2, off := 0 })]) :: (Value.int IntKind.i64 ↑i) :: (Value.int IntKind.i32 ↑R) :: (Value.tuple #[Value.int IntKind.i32 ↑R, Value.int IntKind.i64 ↑d, Value.bool k]) :: (Value.string t) :: (Value.int IntKind.i64 ↑i) :: (Value.tuple #[Value.int IntKind.i32 ↑R, Value.int IntKind.i64 ↑d, Value.bool k]) :: (Value.int IntKind.i32 ↑R) :: (Value.int IntKind.i64 ↑d) :: (Value.bool k) :: (Value.agg #[Value.int IntKind.i64 ↑B, Value.int IntKind.i64 ↑n, Value.int IntKind.i64 ↑U, Value.int IntKind.i64 ↑C, Value.int IntKind.i64 ↑L, Value.int IntKind.i64 ↑K0]) :: (Value.int IntKind.i32 ↑R) :: (Value.string s) :: (Value.pointer (some { block := bh, off := 0 })) :: (Value.int IntKind.i64 ↑B) :: (Value.int IntKind.i64 ↑d) :: (Value.int IntKind.i64 (↑B + ↑d)) :: (Value.string (s.extract (B + d) s.size)) :: (Value.agg #[Value.int IntKind.i64 ↑B, Value.int IntKind.i64 ↑(n + 1), Value.int IntKind.i64 ↑(U + u1), Value.int IntKind.i64 ↑C, Value.int IntKind.i64 ↑L1, Value.int IntKind.i64 ↑K1]) :: (Value.pointer (some { block := bh, off := 0 })) :: (Value.int IntKind.i64 ↑B) :: (Value.int IntKind.i64 ↑d) :: (Value.int IntKind.i64 (↑B + ↑d)) :: (Value.pointer (some { block := bh, off := 0 })) :: (Value.int IntKind.i64 ↑i) :: (Value.int IntKind.i64 ↑d) :: (Value.int IntKind.i64 (↑i + ↑d)) :: (Value.string t) :: (Value.int IntKind.i64 ↑(cb - ca)) :: (Value.bool ((i : Int) + (d : Int) == ((cb - ca : Nat) : Int))) :: undef :: undef :: undef :: undef :: (.pointer (some ⟨p, 0, none⟩)) :: (.pointer (some ⟨p, 0, none⟩)) :: (.pointer (some ⟨p, 0, none⟩)) :: (.pointer (some ⟨p, 1, none⟩)) :: (.slice (some ⟨g, 0, none⟩) n (pN s)) :: (.agg #[.int .i64 ((B : Int) + (d : Int)), .int .i64 (n + 1 : Nat), .int .i64 (U + u1 : Nat), .int .i64 (C : Nat), .int .i64 (L1 : Nat), .int .i64 (K1 : Nat)]) :: (.slice (some ⟨W7.heap.size, 0, none⟩) 1 1) :: (.slice (some ⟨g, 0, none⟩) (n + 1) (pN s)) :: (.pointer (some ⟨p, 0, none⟩)) :: (.pointer (some ⟨p, 1, none⟩)) :: undef :: []) hsz2 hds (fun p hp => by
                rcases List.mem_append.1 hp with h | h
                · exact hb p h
                · simp only [List.mem_cons, List.not_mem_nil, or_false] at h
                  rcases h with rfl | rfl | rfl | rfl | rfl | rfl | rfl | rfl | rfl | rfl
                  · exact hv 0 (by decide)
                  · exact hv 1 (by decide)
                  · exact hv 2 (by decide)
                  · exact hv 3 (by decide)
                  · exact hv 4 (by decide)
                  · exact hv 5 (by decide)
                  · exact hv 6 (by decide)
                  · exact hv 7 (by decide)
                  · exact hv 8 (by decide)
                  · exact hv 9 (by decide)) rfl
              clear hb hv hds hsz2
              obtain ⟨f, hf, _, hJ⟩ := hJ
              obtain rfl : W5 = Wc := by rw [Jof, hf 7 (by decide)] at hJ; simpa using hJ
              have cp1 : W5.cell? ⟨p, 1, none⟩ = some (.slice (some ⟨g, 0, none⟩) n (pN s)) := by simp [World.cell?, hpc]
              have fp1 : W5.frozen? ⟨p, 1, none⟩ = false := by simp [World.frozen?, hpc]
              have hGp := grown_set W5 p 1 (.slice (some ⟨g, 0, none⟩) (n + 1) (pN s))
              refine ⟨W5.setCell ⟨p, 1, none⟩ (.slice (some ⟨g, 0, none⟩) (n + 1) (pN s)), by simp [go_sem, Act.eval, cp1, fp1], ?_⟩
              have hend := unhide Hfin _ (hqc.trans (KQ.grown hGp (.inr (.inl rfl)) (cells_nowalk hpc))) (unhide Hst1 _ ⟨htc.kept hGp (fun e => by have := Option.some.inj e; omega), hmc.kept hGp (fun e => hmp (Option.some.inj e)), (hGp.block bh (Array.getElem?_eq_some_iff.1 hhc).1 (fun e => by have := Option.some.inj e; omega)).trans hhc, heap_set 1 _ hpc, (show W5.ownsRow 0 29 6 (.slice (some ⟨g, 0, none⟩) (n + 1) (pN s)) (n + 1) (spF s (n + 1)) by rw [spF_succ, unhide Hspc]; exact hoc).kept hGp (.inr (fun e => hpg (Option.some.inj (by simpa [Value.ownBlock] using e)).symm))⟩) (hBc.setCell (p := ⟨p, 1, none⟩) (by show w.heap.size ≤ p; omega) _)
              exact hend

end Go.Proofs.Ytiakhpfljjfaeaa
