/-
  The log: what is left behind a cut is moved to the front.
-/
import Derived.Test.YtijjoikeceechaaGreatZXLG3
import Derived.Laws.CopyRow
import Derived.Laws.CopyOwn

set_option linter.unusedSimpArgs false
set_option linter.unusedVariables false
namespace Go.Proofs.YtijjoikeceechaaGreat
open Go.RowKit Go.Lib

theorem copy_own (w : World) (ty : TypeId) (g cap n m : Nat) (C D : List Value) (vl : Value) (h : w.ownsRow 0 45 11 (.slice (some ⟨g, 0, none⟩) n cap) n C) (hl : RC w vl m D) (hD : D.length = m * 11) (hm : m ≤ n) (h1 : ∀ v ∈ D, v.oneCell' = true) :
    ∃ w', (Builtin.copy_ #[33, 33] ty #[.slice (some ⟨g, 0, none⟩) n cap, vl]).run Tryz.prog w = .ok (.int .i64 (m : Nat)) w' ∧ w'.ownsRow 0 45 11 (.slice (some ⟨g, 0, none⟩) n cap) n (D ++ C.drop (m * 11)) ∧ Kp (fun i => i = g) w w' := by
  obtain ⟨i0, hi, hz0, hz1, hz2⟩ := info_parts infoO
  obtain ⟨hC, (⟨e, _⟩ | ⟨g', cap', cur, e, hb, hg, hnc, hcm, hcs, htk⟩)⟩ := h
  · simp at e
  simp only [Value.slice.injEq, Option.some.injEq, Addr.mk.injEq, and_true, true_and] at e
  obtain ⟨rfl, rfl⟩ := e
  have hst := run_storeCells_at Tryz.prog g 0 45 D 0 cur w hg (by rw [hD, hcs]; simp; omega) h1
  simp only [Nat.zero_add, List.take_zero, List.nil_append] at hst
  refine ⟨w.setRow g (D ++ cur.toList.drop D.length).toArray, ?_, ⟨?_, .inr ⟨g, cap, _, rfl, hb, setRow_heap w g cur _ _ _ hg, hnc, hcm, ?_, ?_⟩⟩, ⟨rfl, rfl, rfl, by simp, fun k _ hk => setRow_other w g k _ (fun e => hk e)⟩⟩
  · have hmin : Nat.min m n = m := Nat.min_eq_left hm
    have hgo : goInt m = .int .i64 (m : Nat) := rfl
    rcases hl with ⟨h0, a, c, rfl⟩ | ⟨b, off, c, rfl, _, _, hc⟩
    · subst h0
      have e : D = [] := List.eq_nil_of_length_eq_zero (by simpa using hD)
      subst e
      have hs : w.setRow g (([] : List Value) ++ cur.toList.drop ([] : List Value).length).toArray = w := by
        rw [List.nil_append, List.length_nil, List.drop_zero, Array.toArray_toList]
        exact setRow_self w g cur _ (0, 0) hg
      rw [hs]
      clear hst
      cases a with
      | none => simp [Builtin.copy_, run_underlying Tryz.underlying33, Builtin.lenOf, Builtin.firstCells, sizeOf, typeInfo, hi, storeCells, goInt]
      | some ad =>
        have hl := run_loadCells_list (P := Tryz.prog) w ad [] (fun j v hv => by simp at hv)
        simp only [List.length_nil] at hl
        simp [Builtin.copy_, run_underlying Tryz.underlying33, Builtin.lenOf, Builtin.firstCells, sizeOf, typeInfo, hi, hl, storeCells, goInt]
    · have hl := run_loadCells_list (P := Tryz.prog) w ⟨b, off, none⟩ D (fun j v hv => by rw [Addr.add_lit]; exact hc j v hv)
      rw [hD] at hl
      simp [Builtin.copy_, run_underlying Tryz.underlying33, Builtin.lenOf, Builtin.firstCells, sizeOf, typeInfo, hi, hz1, hmin, hl, hst, goInt]
  · rw [List.length_append, List.length_drop, hD, hC]
    omega
  · simp only [List.size_toArray, List.length_append, List.length_drop, Array.length_toList, hD, hcs]
    exact Nat.add_sub_cancel' (Nat.mul_le_mul_right 11 (Nat.le_trans hm hnc))
  · show (D ++ cur.toList.drop D.length).take (n * 11) = _
    rw [List.take_append, List.take_of_length_le (by rw [hD]; exact Nat.mul_le_mul_right 11 hm), show ((cur.toList.drop D.length).take (n * 11 - D.length)) = C.drop (m * 11) by rw [hD, ← htk, List.drop_take]]

theorem zeroO_one (n : Nat) : ∀ v ∈ (Builtin.zeroCells #[.int .i64 0, .int .i64 0, .slice none 0 0, .int .i64 0, .int .i64 0, .int .i64 0, .int .i64 0, .int .i64 0, .string ⟨#[]⟩, .slice none 0 0, .int .i64 0] n).toList, v.oneCell' = true := by
  intro v hv
  unfold Builtin.zeroCells at hv
  simp only [Array.toList_map, List.mem_map] at hv
  obtain ⟨i, _, rfl⟩ := hv
  have h : i % 11 < 11 := Nat.mod_lt _ (by omega)
  show (#[Value.int .i64 0, .int .i64 0, .slice none 0 0, .int .i64 0, .int .i64 0, .int .i64 0, .int .i64 0, .int .i64 0, .string ⟨#[]⟩, .slice none 0 0, .int .i64 0][i % 11]!).oneCell' = true
  generalize i % 11 = k at h
  obtain rfl | rfl | rfl | rfl | rfl | rfl | rfl | rfl | rfl | rfl | rfl : k = 0 ∨ k = 1 ∨ k = 2 ∨ k = 3 ∨ k = 4 ∨ k = 5 ∨ k = 6 ∨ k = 7 ∨ k = 8 ∨ k = 9 ∨ k = 10 := by omega
  all_goals rfl

theorem clear_own (w : World) (ty : TypeId) (g cap n m c' : Nat) (D R : List Value) (h : w.ownsRow 0 45 11 (.slice (some ⟨g, 0, none⟩) n cap) n (D ++ R)) (hD : D.length = m * 11) (hm : m ≤ n) :
    ∃ w', (Builtin.clear_ #[33] ty #[.slice (some ⟨g, m * 11, none⟩) (n - m) c']).run Tryz.prog w = .ok (.tuple #[]) w' ∧ w'.ownsRow 0 45 11 (.slice (some ⟨g, 0, none⟩) m cap) m D ∧ Kp (fun i => i = g) w w' := by
  obtain ⟨hC, (⟨e, _⟩ | ⟨g', cap', cur, e, hb, hg, hnc, hcm, hcs, htk⟩)⟩ := h
  · simp at e
  simp only [Value.slice.injEq, Option.some.injEq, Addr.mk.injEq, and_true, true_and] at e
  obtain ⟨rfl, rfl⟩ := e
  have htk2 : cur.toList.take (m * 11) = D := by
    have := congrArg (List.take (m * 11)) htk
    rw [List.take_take, Nat.min_eq_left (by omega)] at this
    rw [this, List.take_append_of_le_length (by omega), List.take_of_length_le (by omega)]
  by_cases h0 : n - m = 0
  · refine ⟨w, ?_, ⟨by omega, .inr ⟨g, cap, cur, rfl, hb, hg, by omega, hcm, hcs, htk2⟩⟩, Kp.refl _ _⟩
    rw [h0]
    simp [Builtin.clear_, run_underlying Tryz.underlying33]
  · obtain ⟨k, hk⟩ : ∃ k, n - m = k + 1 := ⟨n - m - 1, by omega⟩
    have hzl : (Builtin.zeroCells #[.int .i64 0, .int .i64 0, .slice none 0 0, .int .i64 0, .int .i64 0, .int .i64 0, .int .i64 0, .int .i64 0, .string ⟨#[]⟩, .slice none 0 0, .int .i64 0] (k + 1)).toList.length = (k + 1) * 11 := by simp [Builtin.zeroCells]
    have hone := zeroO_one (k + 1)
    obtain ⟨ZS, hZS⟩ : ∃ Z, Builtin.zeroCells #[.int .i64 0, .int .i64 0, .slice none 0 0, .int .i64 0, .int .i64 0, .int .i64 0, .int .i64 0, .int .i64 0, .string ⟨#[]⟩, .slice none 0 0, .int .i64 0] (k + 1) = Z := ⟨_, rfl⟩
    rw [hZS] at hzl hone
    have hfit : m * 11 + (k + 1) * 11 ≤ cap * 11 := by rw [← Nat.add_mul]; exact Nat.mul_le_mul_right 11 (by omega)
    have hst := run_storeCells_at Tryz.prog g (m * 11) 45 ZS.toList 0 cur w hg (by rw [hzl, hcs, Nat.add_zero]; exact hfit) hone
    simp only [Nat.add_zero] at hst
    obtain ⟨A, hA⟩ : ∃ A, (cur.toList.take (m * 11) ++ ZS.toList ++ cur.toList.drop (m * 11 + ZS.toList.length)).toArray = A := ⟨_, rfl⟩
    rw [hA] at hst
    refine ⟨w.setRow g A, ?_, ⟨hD, .inr ⟨g, cap, A, rfl, hb, setRow_heap w g cur _ _ _ hg, by omega, hcm, ?_, ?_⟩⟩, ⟨rfl, rfl, rfl, by simp, fun k _ hk => setRow_other w g k _ (fun e => hk e)⟩⟩
    · rw [hk]
      simp [Builtin.clear_, run_underlying Tryz.underlying33, Tryz.zeroValue45, Value.cells, hZS, hst]
    · rw [← hA]
      simp only [List.size_toArray, List.length_append, List.length_take, List.length_drop, Array.length_toList, hzl, hcs]
      rw [Nat.min_eq_left (by omega)]
      exact Nat.add_sub_cancel' hfit
    · rw [← hA]
      simp only [List.append_assoc]
      rw [List.take_append_of_le_length (by rw [List.length_take, Array.length_toList, hcs]; omega), List.take_take, Nat.min_self, htk2]

theorem sl_fromO (w : World) (a : Option Addr) (n c k : Nat) (hk : k ≤ n) (hn : n ≤ c) :
    (Instr.sliceAt 33 (.slice a n c) (some (.int .i64 (k : Nat))) none none).run Tryz.prog w = .ok (.slice (if c = k then a else a.map (·.add (k * 11))) (n - k) (c - k)) w := by
  obtain ⟨i0, hi, hz0, hz1, hz2⟩ := info_parts infoO
  have h1 : (k : Int) ≤ (n : Int) := by omega
  simp [Instr.sliceAt, Instr.slice, run_underlying Tryz.underlying33, sizeOf, typeInfo, hi, hz1, go_sem, h1, hk, hn]
theorem sl_toO (w : World) (a : Option Addr) (n c k : Nat) (hk : k ≤ c) :
    (Instr.sliceAt 33 (.slice a n c) none (some (.int .i64 (k : Nat))) none).run Tryz.prog w = .ok (.slice a k c) w := by
  obtain ⟨i0, hi, hz0, hz1, hz2⟩ := info_parts infoO
  have h1 : (k : Int) ≤ (c : Int) := by omega
  simp [Instr.sliceAt, Instr.slice, run_underlying Tryz.underlying33, sizeOf, typeInfo, hi, hz1, go_sem, h1, hk]

theorem wpList_copy_eq {w : World} {ops : Array Oper} {rest : List Oper} {o : Oper} {a : Act} {Q : Exit → Act → World → Prop} (hgd : o.guard = none) (s x : Operand) (t : TypeId)
    (ho : o.op = .call { callee := .builtin .copy, args := #[s, x], argTypes := #[t, t] }) (v u v' : Value) (w' : World) (hs : a.eval s = v) (hx : a.eval x = u) (hr : (Builtin.copy_ #[t, t] o.type #[v, u]).run Tryz.prog w = .ok v' w')
    (h : wpList Tryz.prog ops Q rest (a.put o.dst v') w') : wpList Tryz.prog ops Q (o :: rest) a w := by
  refine wpList_plain hgd fun K hK => ?_
  unfold Oper.wp execOp
  simp only [ho, resolve, invoke, builtin, Sem.run_bind, Sem.run_pure, Result.andThen_ok, List.map_toArray, List.map_cons, List.map_nil, hs, hx, hr]
  exact hK _ _ h
theorem wpList_clear_eq {w : World} {ops : Array Oper} {rest : List Oper} {o : Oper} {a : Act} {Q : Exit → Act → World → Prop} (hgd : o.guard = none) (s : Operand) (t : TypeId)
    (ho : o.op = .call { callee := .builtin .clear, args := #[s], argTypes := #[t] }) (v v' : Value) (w' : World) (hs : a.eval s = v) (hr : (Builtin.clear_ #[t] o.type #[v]).run Tryz.prog w = .ok v' w')
    (h : wpList Tryz.prog ops Q rest (a.put o.dst v') w') : wpList Tryz.prog ops Q (o :: rest) a w := by
  refine wpList_plain hgd fun K hK => ?_
  unfold Oper.wp execOp
  simp only [ho, resolve, invoke, builtin, Sem.run_bind, Sem.run_pure, Result.andThen_ok, List.map_toArray, List.map_cons, List.map_nil, hs, hr]
  exact hK _ _ h
theorem RC.owned {W : World} {v : Value} {n : Nat} {C : List Value} (h : RC W v n C) : ∃ a c, v = .slice a n c := h.form
/-- a log whose list is another one -/
theorem LG.list {P : Nat → Prop} {W W' : World} {b : Nat} {vb vh vo v' : Value} {base hv : List (Int × Int)} {ops left : List (Opn × Value × Value)} (h : LG P W b vb vh vo base hv ops) (k : Kp (fun i => i = b ∨ vo.ownBlock = some i) W W') (hb : Bx W' b 51 #[vb, vh, v']) (ho : W'.ownsRow 0 45 11 v' left.length (flat encO left)) (hm : ∀ e ∈ left, e ∈ ops) (hv' : ∀ i, v'.ownBlock = some i → P i) : LG P W' b vb vh v' base hv left := by
  have tD : ∀ {B n : Nat} {v : Value} {C : List Value}, W.ownsRow B 28 2 v n C → ∀ i, v.ownBlock = some i → ¬ (i = b ∨ vo.ownBlock = some i) := fun hr i hi e => by
    rcases e with e | e
    · exact own_ne_box hr h.box (by decide) (by rw [hi, e])
    · exact own_ne_own hr h.ro (by decide) i hi e
  have tR : ∀ {B n : Nat} {v : Value} {C : List Value}, W.ownsRow B 81 3 v n C → ∀ i, v.ownBlock = some i → ¬ (i = b ∨ vo.ownBlock = some i) := fun hr i hi e => by
    rcases e with e | e
    · exact own_ne_box hr h.box (by decide) (by rw [hi, e])
    · exact own_ne_own hr h.ro (by decide) i hi e
  refine ⟨hb, owns_kp h.rb k (tD h.rb), owns_kp h.rh k (tD h.rh), ho, fun e he => ?_, h.pb, h.pvb, h.pvh, hv', h.lb, h.lh⟩
  have oe := h.re e (hm e he)
  exact ⟨owns_kp oe.d k (tD oe.d), owns_kp oe.g k (tR oe.g), oe.pd, oe.pg, oe.s1, oe.s2, oe.s3⟩
theorem flat_one {P : Nat → Prop} {W : World} {l : List (Opn × Value × Value)} (h : ∀ e ∈ l, OE P W e) : ∀ v ∈ flat encO l, v.oneCell' = true := fun v hv => by
  obtain ⟨e, he, hx⟩ := flat_mem hv
  exact (h e he).one v hx
set_option maxRecDepth 100000 in
set_option maxHeartbeats 4000000 in
theorem keep_in {P : Nat → Prop} {w : World} {b : Nat} {vb vh vo : Value} {base hv : List (Int × Int)} {ops : List (Opn × Value × Value)} (h : LG P w b vb vh vo base hv ops) (vl : Value) (left : List (Opn × Value × Value)) (hr : RC w vl left.length (flat encO left)) (hl : left.length ≤ ops.length) (hm : ∀ e ∈ left, e ∈ ops) :
    Calls Tryz.prog 46 #[.pointer (some ⟨b, 0, none⟩), vl] w fun e W => e = .returned (.tuple #[]) ∧ (∃ v', LG P W b vb vh v' base hv left ∧ v'.ownBlock = vo.ownBlock) ∧ Kp (fun i => i = b ∨ vo.ownBlock = some i) w W := by
  obtain ⟨al, cl, rfl⟩ := hr.form
  have c0 := h.box.cell 2 _ rfl
  have hbl := h.box.lt
  rcases h.ro.2 with ⟨hvo, hn0⟩ | ⟨g, cap, cur, hvo, _, _, hcap, _⟩
  · -- nothing is kept
    subst hvo
    have e0 : left = [] := List.eq_nil_of_length_eq_zero (by omega)
    have e1 : ops = [] := List.eq_nil_of_length_eq_zero hn0
    subst e0 e1
    simp only [List.length_nil] at *
    have f0 := h.box.frozen 2
    have s0 : w.setCell ⟨b, 2, none⟩ (.slice none 0 0) = w := h.box.same 2 _ rfl
    have hcp : (Builtin.copy_ #[33, 33] 3 #[.slice none 0 0, .slice al 0 cl]).run Tryz.prog w = .ok (.int .i64 0) w := by
      obtain ⟨i0, hi, hz0, hz1, hz2⟩ := info_parts infoO
      cases al with
      | none => simp [Builtin.copy_, run_underlying Tryz.underlying33, Builtin.lenOf, Builtin.firstCells, sizeOf, typeInfo, hi, goInt]
      | some ad =>
        have hl := run_loadCells_list (P := Tryz.prog) w ad [] (fun j v hv => by simp at hv)
        simp only [List.length_nil] at hl
        simp [Builtin.copy_, run_underlying Tryz.underlying33, Builtin.lenOf, Builtin.firstCells, sizeOf, typeInfo, hi, hl, goInt]
    have hcl : (Builtin.clear_ #[33] 0 #[.slice none 0 0]).run Tryz.prog w = .ok (.tuple #[]) w := by simp [Builtin.clear_, run_underlying Tryz.underlying33]
    have H := hide h
    clear h hr
    go_enter Tryz.func46, Tryz.ntmps46
    go_wp2
    refine bodyPost_end (results_none rfl _ _ _) rfl ?_
    exact ⟨rfl, ⟨_, unhide H, rfl⟩, Kp.refl _ _⟩
  · subst hvo
    obtain ⟨m, hm0⟩ : ∃ m, left.length = m := ⟨_, rfl⟩
    have ho := h.ro
    have h1 := flat_one (fun e he => h.re e (hm e he))
    obtain ⟨w1, hcp, ho1, k1⟩ := copy_own w 3 g cap ops.length left.length (flat encO ops) (flat encO left) _ ho hr (flat_len encO_len left) hl h1
    have hgb : g ≠ b := fun e => own_ne_box ho h.box (by decide) (by rw [e]; rfl)
    have bx1 := h.box.kp k1 (fun e => hgb e.symm)
    rw [hm0] at hcp hl hr ⊢
    have hlc : (m : Int) ≤ (ops.length : Int) := by omega
    have hlc2 : (ops.length : Int) ≤ (cap : Int) := by omega
    obtain ⟨w2, hcl, ho2, k2⟩ : ∃ w2, (Builtin.clear_ #[33] 0 #[.slice (if cap = m then some ⟨g, 0, none⟩ else some ⟨g, m * 11, none⟩) (ops.length - m) (cap - m)]).run Tryz.prog w1 = .ok (.tuple #[]) w2 ∧ w2.ownsRow 0 45 11 (.slice (some ⟨g, 0, none⟩) m cap) m (flat encO left) ∧ Kp (fun i => i = g) w1 w2 := by
      obtain ⟨w2, q1, q2, q3⟩ := clear_own w1 0 g cap ops.length m (cap - m) _ _ ho1 (by rw [flat_len encO_len, hm0]) hl
      refine ⟨w2, ?_, q2, q3⟩
      by_cases hc : cap = m
      · rw [if_pos hc, show ops.length - m = 0 by omega] at *
        have e2 : (Builtin.clear_ #[33] 0 #[.slice (some ⟨g, m * 11, none⟩) 0 (cap - m)]).run Tryz.prog w1 = .ok (.tuple #[]) w1 := by simp [Builtin.clear_, run_underlying Tryz.underlying33]
        rw [e2] at q1
        injection q1 with _ e3
        subst e3
        simp [Builtin.clear_, run_underlying Tryz.underlying33]
      · rw [if_neg hc]; exact q1
    obtain ⟨AA, hAA⟩ : ∃ A, (if cap = m then some (⟨g, 0, none⟩ : Addr) else some ⟨g, m * 11, none⟩) = A := ⟨_, rfl⟩
    rw [hAA] at hcl
    have hsf : ∀ W, (Instr.sliceAt 33 (.slice (some ⟨g, 0, none⟩) ops.length cap) (some (.int .i64 (m : Nat))) none none).run Tryz.prog W = .ok (.slice AA (ops.length - m) (cap - m)) W := fun W => by
      have := sl_fromO W (some ⟨g, 0, none⟩) ops.length cap m hl hcap
      rw [this, ← hAA]
      by_cases hc : cap = m
      · rw [if_pos hc, if_pos hc]
      · rw [if_neg hc, if_neg hc]
        simp [Addr.add_lit]
    have hst : ∀ W, (Instr.sliceAt 33 (.slice (some ⟨g, 0, none⟩) ops.length cap) none (some (.int .i64 (m : Nat))) none).run Tryz.prog W = .ok (.slice (some ⟨g, 0, none⟩) m cap) W := fun W => sl_toO W _ _ _ _ (by omega)
    have bx2 := bx1.kp k2 (fun e => hgb e.symm)
    have c1 := bx1.cell 2 _ rfl
    have c2 := bx2.cell 2 _ rfl
    have f2 := bx2.frozen 2
    have l1 := bx1.lt
    have l2 := bx2.lt
    have k3 := Kp.set (N := fun i => i = b) w2 ⟨b, 2, none⟩ (.slice (some ⟨g, 0, none⟩) m cap) rfl
    have KK : Hid (Kp (fun i => i = b ∨ (Value.slice (some ⟨g, 0, none⟩) ops.length cap).ownBlock = some i) w (w2.setCell ⟨b, 2, none⟩ (.slice (some ⟨g, 0, none⟩) m cap))) := ((k1.wk (fun i e => .inr (by rw [e]; rfl))).trans k2 (fun i e => .inl (.inr (by rw [e]; rfl)))).trans k3 (fun i e => .inl (.inl e))
    have HF := hide (h.list (left := left) (v' := .slice (some ⟨g, 0, none⟩) m cap) (unhide KK) (by have := bx2.set 2 (.slice (some ⟨g, 0, none⟩) m cap); simpa using this) (by rw [hm0]; exact owns_kp ho2 k3 (fun i hi e => by simp [Value.ownBlock] at hi; omega)) hm (fun i hi => h.pvo i (by simpa [Value.ownBlock] using hi)))
    clear h hr ho h1 ho1 k1 bx1 bx2 ho2 k2 k3 hm hAA hm0
    go_enter Tryz.func46, Tryz.ntmps46
    go_wp2
    refine bodyPost_end (results_none rfl _ _ _) rfl ?_
    exact ⟨rfl, ⟨_, unhide HF, rfl⟩, unhide KK⟩

end Go.Proofs.YtijjoikeceechaaGreat

/-
  The log is cut.
-/
set_option linter.unusedSimpArgs false
set_option linter.unusedVariables false
namespace Go.Proofs.YtijjoikeceechaaGreat
open Go.RowKit Go.Lib

def sets (W : World) (b : Nat) : Nat → List Value → World
  | _, [] => W
  | o, c :: cs => sets (W.setCell ⟨b, o, none⟩ c) b (o + 1) cs
def lsets (xs : List Value) : Nat → List Value → List Value
  | _, [] => xs
  | o, c :: cs => lsets (xs.set o c) (o + 1) cs
theorem lsets_len : ∀ (cs xs : List Value) (o : Nat), (lsets xs o cs).length = xs.length
  | [], _, _ => rfl
  | c :: cs, xs, o => by rw [lsets, lsets_len cs, List.length_set]
theorem lsets_out : ∀ (cs xs : List Value) (o q : Nat), q < o ∨ o + cs.length ≤ q → (lsets xs o cs)[q]? = xs[q]?
  | [], _, _, _, _ => rfl
  | c :: cs, xs, o, q, h => by
    rw [List.length_cons] at h
    rw [lsets, lsets_out cs _ _ _ (by omega), List.getElem?_set_ne (by omega)]
theorem lsets_in : ∀ (cs xs : List Value) (o k : Nat), k < cs.length → o + k < xs.length → (lsets xs o cs)[o + k]? = cs[k]?
  | c :: cs, xs, o, 0, _, hl => by
    rw [lsets, lsets_out cs _ _ _ (by omega)]
    exact List.getElem?_set_self hl
  | c :: cs, xs, o, k + 1, h, hl => by
    rw [List.length_cons] at h
    rw [lsets, show o + (k + 1) = o + 1 + k by omega, lsets_in cs _ _ _ (by omega) (by rw [List.length_set]; omega)]
    rfl
theorem own_sets {B e s b m c : Nat} : ∀ (cs : List Value) {xs : List Value} {W : World} (o : Nat), W.ownsRow B e s (.slice (some ⟨b, 0, none⟩) m c) m xs → (sets W b o cs).ownsRow B e s (.slice (some ⟨b, 0, none⟩) m c) m (lsets xs o cs) ∧ Kp (fun k => k = b) W (sets W b o cs)
  | [], xs, W, o, h => ⟨h, Kp.refl _ _⟩
  | c :: cs, xs, W, o, h => by
    have h1 := (h.stored o c).1
    obtain ⟨h2, g2⟩ := own_sets cs (o + 1) h1
    exact ⟨h2, (Kp.set (N := fun k => k = b) W ⟨b, o, none⟩ c rfl).trans g2 (fun i e => .inl e)⟩
theorem own_base {W : World} {B B' E k n : Nat} {v : Value} {C : List Value} (h : W.ownsRow B E k v n C) (hb : B' ≤ B) : W.ownsRow B' E k v n C := by
  obtain ⟨h1, h2⟩ := h
  refine ⟨h1, h2.imp id ?_⟩
  rintro ⟨g, cap, cur, e1, e2, e3⟩
  exact ⟨g, cap, cur, e1, by omega, e3⟩
theorem lsets_mid : ∀ (cs Q A R : List Value), Q.length = cs.length → lsets (A ++ (Q ++ R)) A.length cs = A ++ (cs ++ R)
  | [], Q, A, R, h => by rw [lsets, List.eq_nil_of_length_eq_zero h]
  | c :: cs, [], A, R, h => by simp at h
  | c :: cs, q :: Q, A, R, h => by
    rw [lsets, List.set_append_right _ _ (Nat.le_refl _), Nat.sub_self]
    have := lsets_mid cs Q (A ++ [c]) R (by simpa using h)
    simp only [List.length_append, List.length_singleton, List.append_assoc, List.cons_append, List.nil_append] at this
    simp only [List.cons_append, List.set_cons_zero]
    exact this
/-- those of which a vector has the Dot -/
def prL (l : List (Int × Int)) (has : Bool) (os : List Opn) : List Opn := os.filter fun o => hasV l (o.ds, o.dq) == has
theorem prt_fst (l : List (Int × Int)) (has : Bool) (ops : List (Opn × Value × Value)) : (prt l has ops).map Prod.fst = prL l has (ops.map Prod.fst) := by
  unfold prt prL
  rw [List.filter_map]
  rfl
/-- the error of a cut -/
def cutE (hv l : List (Int × Int)) : Int := if chk l ≠ 0 then chk l else if cov (sy hv) (sy l) = true then 0 else 9
theorem cutE_chk {hv l : List (Int × Int)} (h : chk l ≠ 0) : cutE hv l = chk l := by unfold cutE; rw [if_pos h]
theorem cutE_cov {hv l : List (Int × Int)} (h : chk l = 0) (h2 : cov (sy hv) (sy l) = false) : cutE hv l = 9 := by unfold cutE; rw [if_neg (by simpa using h), if_neg (by simp [h2])]
theorem cutE_ok {hv l : List (Int × Int)} (h : chk l = 0) (h2 : cov (sy hv) (sy l) = true) : cutE hv l = 0 := by unfold cutE; rw [if_neg (by simpa using h), if_pos h2]

/-- operations that are answered: a list of one's own, and the lists of each -/
def RL (P : Nat → Prop) (W : World) (v : Value) (os : List Opn) : Prop := ∃ ops : List (Opn × Value × Value), W.ownsRow 0 45 11 v ops.length (flat encO ops) ∧ (∀ e ∈ ops, OE P W e) ∧ (∀ k, v.ownBlock = some k → P k) ∧ ops.map Prod.fst = os
theorem RL.kp {P N : Nat → Prop} {W W' : World} {v : Value} {os : List Opn} (h : RL P W v os) (k : Kp N W W') (hn : ∀ i, N i → ¬ P i) : RL P W' v os := by
  obtain ⟨ops, h1, h2, h3, h4⟩ := h
  exact ⟨ops, owns_kp h1 k (fun i hi e => hn i e (h3 i hi)), fun e he => (h2 e he).kp k hn, h3, h4⟩
theorem RL.below {P : Nat → Prop} {W W' : World} {v : Value} {os : List Opn} (h : RL P W v os) (hb : Below W.heap.size W W') : RL P W' v os := h.kp (N := fun _ => False) (Kp.of_below hb) (fun _ h => h.elim)
theorem RL.mono {P P' : Nat → Prop} {W : World} {v : Value} {os : List Opn} (h : RL P W v os) (hp : ∀ i, P i → P' i) : RL P' W v os := by
  obtain ⟨ops, h1, h2, h3, h4⟩ := h
  exact ⟨ops, h1, fun e he => (h2 e he).mono hp, fun k hk => hp k (h3 k hk), h4⟩
theorem RL.nil (P : Nat → Prop) (W : World) : RL P W (.slice none 0 0) [] := ⟨[], World.ownsRow_nil _ _ _ _, fun e he => (by cases he), fun k hk => (by cases hk), rfl⟩

set_option maxRecDepth 100000 in
theorem Cut_nil (a : Option Addr) (n c : Nat) (w : World) : Calls Tryz.prog 23 #[.pointer none, .slice a n c] w fun e W => e = .returned (.tuple #[.slice none 0 0, .int .i64 1]) ∧ w = W := by
  go_enter Tryz.func23, Tryz.ntmps23
  go_wp2
  refine bodyPost_ret (results_tmp2 rfl _ _ _) rfl ?_
  exact ⟨rfl, rfl⟩

/-- while what is forgotten is cloned: the first ones are, the others as they were -/
def CuR (w : World) (gone : List (Opn × Value × Value)) (v : Value) (i : Nat) (W : World) : Prop :=
  ∃ cl : List (Opn × Value × Value), cl.length = i ∧ cl.map Prod.fst = (gone.take i).map Prod.fst ∧ (∀ e ∈ cl, OE (fun k => w.heap.size ≤ k) W e) ∧ W.ownsRow w.heap.size 45 11 v gone.length (flat encO (cl ++ gone.drop i))

/-- what Cut leaves -/
def CutA (P : Nat → Prop) (w : World) (b : Nat) (base hv : List (Int × Int)) (os : List Opn) (l : List (Int × Int)) (e : Ending) (W : World) : Prop :=
  ∃ v M, e = .returned (.tuple #[v, .int .i64 (cutE hv l)]) ∧ w.heap.size ≤ M ∧ M ≤ W.heap.size ∧ RL (fun i => w.heap.size ≤ i ∧ i < M) W v (if cutE hv l = 0 then prL l true os else []) ∧ LL (fun i => P i ∨ M ≤ i) W b (if cutE hv l = 0 then vec (mrg (sy base) (sy l)) else base) hv (if cutE hv l = 0 then prL l false os else os) ∧ Kp P w W

theorem LG.setBase {P P' : Nat → Prop} {W : World} {b : Nat} {vb vh vo v' : Value} {base hv base' : List (Int × Int)} {ops : List (Opn × Value × Value)} (h : LG P W b vb vh vo base hv ops) (ho : OwD W 0 v' base') (hp : ∀ i, P i → P' i) (hv' : ∀ k, v'.ownBlock = some k → P' k) (hl : base'.length ≤ 1000000) : LG P' (W.setCell ⟨b, 0, none⟩ v') b v' vh vo base' hv ops := by
  have k := Kp.set (N := fun i => i = b) W ⟨b, 0, none⟩ v' rfl
  have tD : ∀ {B n : Nat} {v : Value} {C : List Value}, W.ownsRow B 28 2 v n C → ∀ i, v.ownBlock = some i → ¬ i = b := fun hr i hi e => own_ne_box hr h.box (by decide) (by rw [hi, e])
  have tR : ∀ {B n : Nat} {v : Value} {C : List Value}, W.ownsRow B 81 3 v n C → ∀ i, v.ownBlock = some i → ¬ i = b := fun hr i hi e => own_ne_box hr h.box (by decide) (by rw [hi, e])
  have hb := h.box.set 0 v'
  refine ⟨by simpa using hb, owns_kp ho k (tD ho), owns_kp h.rh k (tD h.rh), owns_kp h.ro k (fun i hi e => own_ne_box h.ro h.box (by decide) (by rw [hi, e])), fun e he => ?_, hp _ h.pb, hv', fun k hk => hp k (h.pvh k hk), fun k hk => hp k (h.pvo k hk), hl, h.lh⟩
  have oe := h.re e he
  exact ⟨owns_kp oe.d k (tD oe.d), owns_kp oe.g k (tR oe.g), fun k hk => hp k (oe.pd k hk), fun k hk => hp k (oe.pg k hk), oe.s1, oe.s2, oe.s3⟩
theorem OE.lt {P : Nat → Prop} {W : World} {e : Opn × Value × Value} (h : OE P W e) : OE (fun i => P i ∧ i < W.heap.size) W e := ⟨h.d, h.g, fun k hk => ⟨h.pd k hk, (h.d.lt k hk).2⟩, fun k hk => ⟨h.pg k hk, (h.g.lt k hk).2⟩, h.s1, h.s2, h.s3⟩

set_option maxRecDepth 100000 in
set_option maxHeartbeats 16000000 in
theorem Cut_in {P : Nat → Prop} {w : World} {b : Nat} {base hv : List (Int × Int)} {os : List Opn} (hL : LL P w b base hv os) (hP : ∀ i, P i → i < w.heap.size) (hn0 : os.length ≤ 1000000) (v : Value) (l : List (Int × Int)) (hr : RI w v l) (hl : l.length ≤ 1000000) (hap : ∀ k, rb v l.length k → ¬ P k) :
    Calls Tryz.prog 23 #[.pointer (some ⟨b, 0, none⟩), v] w (CutA P w b base hv os l) := by
  have hL0 := hL
  obtain ⟨vb, vh, vo, ops, h, rfl⟩ := hL
  rw [List.length_map] at hn0
  obtain ⟨av, cv, rfl⟩ := hr.form
  obtain ⟨ah, ch, rfl⟩ := OwD.form h.rh
  obtain ⟨ab, cb, rfl⟩ := OwD.form h.rb
  have HF : Hid (∀ W, Below w.heap.size w W → cutE hv l ≠ 0 → CutA P w b base hv (ops.map Prod.fst) l (.returned (.tuple #[.slice none 0 0, .int .i64 (cutE hv l)])) W) := fun W hb he => ⟨_, w.heap.size, rfl, Nat.le_refl _, hb.size, by rw [if_neg he]; exact RL.nil _ _, by rw [if_neg he, if_neg he]; exact (hL0.below hb).mono (fun i hi => .inl hi), Kp.of_below hb⟩
  have HC := hide (Check_in _ l w hr (by omega))
  have Hh := hide h
  have Hr := hide hr
  have Hap := hide hap
  have c1 := h.box.cell 1 _ rfl
  have bl := h.box.lt
  clear hL0 h hr hap
  by_cases hck : chk l = 0
  rotate_left
  · have HE := hide (cutE_chk (hv := hv) hck)
    obtain ⟨k, hk⟩ : ∃ k, chk l = k := ⟨_, rfl⟩
    rw [hk] at HC HE hck
    have hck' : (k == 0) = false := by simpa using hck
    clear hk
    go_enter Tryz.func23, Tryz.ntmps23
    go_wp2_with fail
    refine (unhide HC).mono ?_
    rintro r W1 ⟨rfl, hb1⟩
    go_wp2
    refine bodyPost_ret (results_tmp2 rfl _ _ _) rfl ?_
    have := unhide HF _ hb1 (by rw [unhide HE]; exact hck)
    rw [unhide HE] at this
    exact this
  have Hck := hide hck
  rw [hck] at HC
  clear hck
  have HCo := hide (fun (W : World) (hb : Below w.heap.size w W) => Covers_in _ _ hv l W ((unhide Hh).below hb).rh.row ((unhide Hr).below hb) (by have := (unhide Hh).lh; omega) (by omega))
  go_enter Tryz.func23, Tryz.ntmps23
  go_wp2_with fail
  refine (unhide HC).mono ?_
  rintro r W1 ⟨rfl, hb1⟩
  have H1 := hide (unhide HCo W1 hb1)
  replace c1 := ((unhide Hh).below hb1).box.cell 1 _ rfl
  have B1 := hide hb1
  clear hb1 HC HCo
  cases hcv : cov (sy hv) (sy l)
  · rw [hcv] at H1
    have HE := hide (cutE_cov (unhide Hck) hcv)
    clear hcv
    go_wp2_with fail
    refine (unhide H1).mono ?_
    rintro r W2 ⟨rfl, hb2⟩
    go_wp2
    refine bodyPost_ret (results_tmp2 rfl _ _ _) rfl ?_
    have := unhide HF _ (bnext (unhide B1) hb2) (by rw [unhide HE]; decide)
    rw [unhide HE] at this
    exact this
  rw [hcv] at H1
  have HE := hide (cutE_ok (unhide Hck) hcv)
  clear hcv HF
  go_wp2_with fail
  refine (unhide H1).mono ?_
  rintro r W2 ⟨rfl, hb2⟩
  have B2 := hide (bnext (unhide B1) hb2)
  have HP1 := hide (part_in ((unhide Hh).below (unhide B2)) _ l true ((unhide Hr).below (unhide B2)) hl hn0)
  clear H1 B1 hb2 c1
  go_wp2_with fail
  refine (unhide HP1).mono ?_
  rintro r W3 ⟨v3, rfl, ho3, hb3⟩
  obtain ⟨gone, hgone⟩ : ∃ g, prt l true ops = g := ⟨_, rfl⟩
  rw [hgone] at ho3
  have hgm : Hid (∀ e ∈ gone, e ∈ ops) := fun e he => prt_mem (by rw [hgone]; exact he)
  have hgl : gone.length ≤ 1000000 := by have := prt_len l true ops; rw [hgone] at this; omega
  have Hgone := hide hgone
  obtain ⟨a3, c3, rfl⟩ := owns_form ho3
  have B3 := hide (bnext (unhide B2) hb3)
  have R0 : Hid (CuR w gone (.slice a3 gone.length c3) 0 W3) := ⟨[], rfl, by simp, fun e he => (by cases he), by rw [List.nil_append, List.drop_zero]; exact own_base ho3 (unhide B2).size⟩
  clear ho3 hb3 HP1 hgone
  go_wp2
  go_loopw [29] (fun iv wr => ∃ (i : Nat), iv = .int .i64 (i : Nat) ∧ i ≤ gone.length ∧ Hid (CuR w gone (.slice a3 gone.length c3) i wr) ∧ Hid (Below w.heap.size w wr)) (fun iv _ => gone.length - (Lib.intOf iv).toNat)
  case atStart => exact ⟨0, rfl, by omega, R0, B3⟩
  case round =>
    clear R0 B3 B2
    obtain ⟨i, rfl, hi, HR, HB⟩ := hrel
    by_cases hlt : i < gone.length
    · have hlt' : (i : Int) < (gone.length : Int) := by omega
      obtain ⟨e, hx⟩ : ∃ e, gone[i]? = some e := ⟨_, List.getElem?_eq_getElem hlt⟩
      obtain ⟨cl, hcl, hcm, hce, hown⟩ := unhide HR
      have hdr : gone.drop i = e :: gone.drop (i + 1) := by
        rw [List.drop_eq_getElem_cons hlt]
        congr 1
        exact Option.some.inj ((List.getElem?_eq_getElem hlt).symm.trans hx)
      have hix : (cl ++ gone.drop i)[i]? = some e := by rw [List.getElem?_append_right (by omega), hcl, Nat.sub_self, hdr]; rfl
      have hln : (cl ++ gone.drop i).length = gone.length := by rw [List.length_append, hcl, List.length_drop]; omega
      obtain ⟨g, rfl, hgl2, hcell⟩ := own_at11 hown hln hix
      have oe := ((unhide Hh).re e (unhide hgm e (List.mem_of_getElem? hx))).below (unhide HB)
      obtain ⟨a1, c1, h1⟩ := OwD.form oe.d
      obtain ⟨a2, c2, h2⟩ := OwR.form oe.g
      obtain ⟨o, ud, ug⟩ := e
      simp only at h1 h2
      subst h1 h2
      have q0 := hcell 0 _ rfl
      have q1 := hcell 1 _ rfl
      have q2 := hcell 2 _ rfl
      have q3 := hcell 3 _ rfl
      have q4 := hcell 4 _ rfl
      have q5 := hcell 5 _ rfl
      have q6 := hcell 6 _ rfl
      have q7 := hcell 7 _ rfl
      have q8 := hcell 8 _ rfl
      have q9 := hcell 9 _ rfl
      have q10 := hcell 10 _ rfl
      rw [Nat.add_zero] at q0
      obtain ⟨Y, hY⟩ : ∃ Y, wr.alloc (.cells #[.int .i64 o.ds, .int .i64 o.dq, .slice a1 o.deps.length c1, .int .i64 o.kind, .int .i64 o.it, .int .i64 o.is, .int .i64 o.rt, .int .i64 o.rs, .string o.text, .slice a2 o.gone.length c2, .int .i64 o.site] 45) = Y := ⟨_, rfl⟩
      have bY : Below wr.heap.size wr Y := by rw [← hY]; exact ballc (Below.refl _ _) _
      have xY := Bx.new wr 45 #[.int .i64 o.ds, .int .i64 o.dq, .slice a1 o.deps.length c1, .int .i64 o.kind, .int .i64 o.it, .int .i64 o.is, .int .i64 o.rt, .int .i64 o.rs, .string o.text, .slice a2 o.gone.length c2, .int .i64 o.site]
      rw [hY] at xY
      have HCl := hide (clone_in o a1 a2 c1 c2 Y (oe.d.row.below bY) (RC.below oe.g.row bY) oe.s1 oe.s2 oe.s3)
      have Hoe := hide oe
      have HX := hide (show cl.length = i ∧ cl.map Prod.fst = (gone.take i).map Prod.fst ∧ (∀ e ∈ cl, OE (fun k => w.heap.size ≤ k) Y e) ∧ Y.ownsRow w.heap.size 45 11 (.slice (some ⟨g, 0, none⟩) gone.length c3) gone.length (flat encO (cl ++ gone.drop i)) from ⟨hcl, hcm, fun e he => (hce e he).below bY, owns_kp (N := fun _ => False) hown (Kp.of_below bY) (fun _ _ x => x)⟩)
      have BY := hide (bnext (unhide HB) bY)
      have hix' := hide hix
      have Hdr := hide hdr
      have Hln := hide hln
      have Hx := hide hx
      have hwY := bY.size
      obtain ⟨z0, z1, z2, z3, z4, z5, z6, z7, z8, z9, z10⟩ := cells_op xY
      have yl := xY.lt
      clear hcl hcm hce hown oe bY xY hix hdr hln hcell HR HB hx
      go_wp2_with fail
      refine (unhide HCl).mono ?_
      rintro r W5 ⟨vd', vg', rfl, hod, hog, hb5⟩
      obtain ⟨ad, cd, rfl⟩ := OwD.form hod
      obtain ⟨ag, cg, rfl⟩ := OwR.form hog
      unfold opA
      obtain ⟨hcl, hcm, hce, hown⟩ := unhide HX
      have hown5 := owns_kp (N := fun _ => False) hown (Kp.of_below hb5) (fun _ _ x => x)
      have hce5 := fun e he => (hce e he).below hb5
      have hix5 := unhide hix'
      obtain ⟨g', hg', hgl5, hcell5⟩ := own_at11 hown5 (unhide Hln) hix5
      simp only [Option.some.injEq, Addr.mk.injEq, and_true] at hg'
      subst hg'
      have fz := fun j => hown5.frozenAt j
      have r0 := hcell5 0 _ rfl
      have r1 := hcell5 1 _ rfl
      have r2 := hcell5 2 _ rfl
      have r3 := hcell5 3 _ rfl
      have r4 := hcell5 4 _ rfl
      have r5 := hcell5 5 _ rfl
      have r6 := hcell5 6 _ rfl
      have r7 := hcell5 7 _ rfl
      have r8 := hcell5 8 _ rfl
      have r9 := hcell5 9 _ rfl
      have r10 := hcell5 10 _ rfl
      rw [Nat.add_zero] at r0
      have f0 := fz (i * 11)
      have f1 := fz (i * 11 + 1)
      have f2 := fz (i * 11 + 2)
      have f3 := fz (i * 11 + 3)
      have f4 := fz (i * 11 + 4)
      have f5 := fz (i * 11 + 5)
      have f6 := fz (i * 11 + 6)
      have f7 := fz (i * 11 + 7)
      have f8 := fz (i * 11 + 8)
      have f9 := fz (i * 11 + 9)
      have f10 := fz (i * 11 + 10)
      -- the element, stored
      obtain ⟨k1, k2⟩ := own_sets (encO (o, Value.slice ad o.deps.length cd, Value.slice ag o.gone.length cg)) (i * 11) hown5
      have hA : (flat encO cl).length = i * 11 := by rw [flat_len encO_len, hcl]
      have hsp : lsets (flat encO (cl ++ gone.drop i)) (i * 11) (encO (o, Value.slice ad o.deps.length cd, Value.slice ag o.gone.length cg)) = flat encO ((cl ++ [(o, Value.slice ad o.deps.length cd, Value.slice ag o.gone.length cg)]) ++ gone.drop (i + 1)) := by
        rw [unhide Hdr, flat_append, flat_cons, ← hA, lsets_mid _ _ _ _ (by rw [encO_len, encO_len]), flat_append, flat_append]
        simp [flat]
      rw [hsp] at k1
      obtain ⟨ZZ, hZZ⟩ : ∃ Z, sets W5 g (i * 11) (encO (o, Value.slice ad o.deps.length cd, Value.slice ag o.gone.length cg)) = Z := ⟨_, rfl⟩
      rw [hZZ] at k1 k2
      have kz := k2
      have hgw : w.heap.size ≤ g := (hown5.lt g rfl).1
      have hoeS := unhide Hoe
      have hodl := hod.lt
      have hogl := hog.lt
      have hYg : g < Y.heap.size := (hown.lt g rfl).2
      have R2 : Hid (CuR w gone (.slice (some ⟨g, 0, none⟩) gone.length c3) (i + 1) ZZ) := by
        refine ⟨cl ++ [(o, Value.slice ad o.deps.length cd, Value.slice ag o.gone.length cg)], by simp [hcl], ?_, fun e he => ?_, k1⟩
        · rw [List.take_add_one, unhide Hx]
          simp [hcm]
        · rcases List.mem_append.1 he with he | he
          · have q := hce5 e he
            exact ⟨owns_kp q.d kz (fun k hk e2 => own_ne_own q.d hown5 (by decide) k hk (by rw [e2]; rfl)), owns_kp q.g kz (fun k hk e2 => own_ne_own q.g hown5 (by decide) k hk (by rw [e2]; rfl)), q.pd, q.pg, q.s1, q.s2, q.s3⟩
          · simp only [List.mem_singleton] at he
            subst he
            exact ⟨own_base (owns_kp hod kz (fun k hk e2 => by have := (hodl k hk).1; omega)) (Nat.zero_le _), own_base (owns_kp hog kz (fun k hk e2 => by have := (hogl k hk).1; omega)) (Nat.zero_le _), fun k hk => by have := (hodl k hk).1; have := (unhide BY).size; omega, fun k hk => by have := (hogl k hk).1; have := (unhide BY).size; omega, hoeS.s1, hoeS.s2, hoeS.s3⟩
      have B2 := hide (kz.below (bnext (unhide BY) hb5) (fun k hk => by omega))
      have HZ := hide hZZ
      have n5 : g < W5.heap.size := hgl5
      clear hcl hcm hce hown hown5 hce5 hix5 hcell5 fz k1 k2 kz hod hog hb5 HCl HX hoeS hodl hogl hsp hA hY z0 z1 z2 z3 z4 z5 z6 z7 z8 z9 z10 q0 q1 q2 q3 q4 q5 q6 q7 q8 q9 q10 hZZ
      go_wp2
      go_roundw
      case measure => show gone.length - ((i : Int) + 1).toNat < gone.length - ((i : Nat) : Int).toNat; omega
      case rel => exact ⟨i + 1, by go_num, by omega, by rw [← unhide HZ] at R2; exact R2, by rw [← unhide HZ] at B2; exact B2⟩
    · have hlt' : ¬ (i : Int) < (gone.length : Int) := by omega
      obtain rfl : i = gone.length := by omega
      have h4 := (unhide Hh).below (unhide HB)
      have HP2 := hide (part_in h4 _ l false ((unhide Hr).below (unhide HB)) hl hn0)
      clear h4
      go_wp2_with fail
      refine (unhide HP2).mono ?_
      rintro r W6 ⟨v6, rfl, ho6, hb6⟩
      have h6 := (unhide Hh).below (bnext (unhide HB) hb6)
      have HK := hide (keep_in h6 v6 (prt l false ops) (RC.of_owns ho6) (prt_len l false ops) (fun e he => prt_mem he))
      obtain ⟨left, hleft⟩ : ∃ x, prt l false ops = x := ⟨_, rfl⟩
      rw [hleft] at HK ho6
      have Hleft := hide hleft
      obtain ⟨a6, c6, rfl⟩ := owns_form ho6
      have B6 := hide hb6
      have h6w : Hid (∀ i, vo.ownBlock = some i → P i) := h6.pvo
      have pb : Hid (P b) := h6.pb
      clear HP2 ho6 hb6 h6 hleft
      go_wp2_with fail
      refine (unhide HK).mono ?_
      rintro r W7 ⟨rfl, ⟨v7, h7, hv7⟩, k7⟩
      have hr7 : RI W7 (.slice av l.length cv) l := RC.kpn ((unhide Hr).below (bnext (unhide HB) (unhide B6))) k7 (fun i hi e => unhide Hap i hi (e.elim (fun e => by rw [e]; exact unhide pb) (fun e => unhide h6w i e)))
      have HM := hide (Merge_in _ _ base l W7 h7.rb.row hr7 (by have := h7.lb; omega) (by omega))
      have c0 := h7.box.cell 0 _ rfl
      have l0 := h7.box.lt
      have H7 := hide h7
      have K7 := hide k7
      clear HK h7 k7 hr7
      go_wp2_with fail
      refine (unhide HM).mono ?_
      rintro r W8 ⟨v8, rfl, ho8, hb8⟩
      obtain ⟨a8, c8, rfl⟩ := OwD.form ho8
      have h8 := (unhide H7).below hb8
      have d0 := h8.box.cell 0 _ rfl
      have f0 := h8.box.frozen 0
      have l8 := h8.box.lt
      have H8 := hide h8
      have O8 := hide ho8
      have B8 := hide hb8
      clear HM h8 ho8 hb8 c0
      go_wp2
      refine bodyPost_ret (results_tmp2 rfl _ _ _) rfl ?_
      have k9 := Kp.set (N := fun i => i = b) W8 ⟨b, 0, none⟩ (.slice a8 (vec (mrg (sy base) (sy l))).length c8) rfl
      have kk : Kp (fun i => i = b ∨ vo.ownBlock = some i) wr (W8.setCell ⟨b, 0, none⟩ (.slice a8 (vec (mrg (sy base) (sy l))).length c8)) := (((Kp.of_below (unhide B6)).trans (unhide K7) (fun i e => .inl e)).trans (Kp.of_below (N := fun _ => False) (unhide B8)) (fun i e => .inl e.elim)).trans k9 (fun i e => .inl (.inl e))
      have kP : ∀ i, (i = b ∨ vo.ownBlock = some i) → P i := fun i e => e.elim (fun e => by rw [e]; exact unhide pb) (fun e => unhide h6w i e)
      obtain ⟨cl, hcl, hcm, hce, hown⟩ := unhide HR
      rw [List.drop_length, List.append_nil] at hown
      rw [List.take_length] at hcm
      have hz7 := (unhide B6).size
      have hz8 := (unhide K7).size
      refine ⟨_, wr.heap.size, by rw [unhide HE]; rfl, (unhide HB).size, kk.size, ?_, ?_, ((Kp.of_below (N := fun _ => False) (unhide HB)).wk (fun i e => e.elim)).trans kk (fun i e => .inl (kP i e))⟩
      · rw [if_pos (unhide HE)]
        refine ⟨cl, ?_, fun e he => ((hce e he).lt).kp kk (fun i hi h => ?_), fun k hk => ?_, ?_⟩
        · rw [hcl]
          exact own_base (owns_kp hown kk (fun i hi e => by have := hP i (kP i e); have := (hown.lt i hi).1; omega)) (Nat.zero_le _)
        · have := hP i (kP i hi); omega
        · exact hown.lt k hk
        · rw [hcm, ← unhide Hgone, prt_fst]
      · rw [if_pos (unhide HE), if_pos (unhide HE)]
        refine ⟨_, _, _, left, (unhide H8).setBase (P' := fun i => P i ∨ wr.heap.size ≤ i) (unhide O8).b0 (fun i hi => .inl hi) (fun k hk => .inr (by have := ((unhide O8).lt k hk).1; omega)) (by have := vec_len (mrg (sy base) (sy l)); omega), ?_⟩
        rw [← unhide Hleft, prt_fst]

end Go.Proofs.YtijjoikeceechaaGreat
