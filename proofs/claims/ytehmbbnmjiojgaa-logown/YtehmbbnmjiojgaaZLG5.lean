/-
  The log: what is left behind a cut is moved to the front.
-/
import Derived.Test.YtehmbbnmjiojgaaZLG4
import Derived.Laws.CopyRow
import Derived.Laws.CopyOwn
set_option linter.unusedSimpArgs false
set_option linter.unusedVariables false
namespace Go.Proofs.Ytehmbbnmjiojgaa
open Go.RowKit Go.Lib

theorem copy_own (w : World) (ty : TypeId) (g cap n m : Nat) (C D : List Value) (vl : Value) (h : w.ownsRow 0 38 11 (.slice (some ⟨g, 0, none⟩) n cap) n C) (hl : RC w vl m D) (hD : D.length = m * 11) (hm : m ≤ n) (h1 : ∀ v ∈ D, v.oneCell' = true) :
    ∃ w', (Builtin.copy_ #[28, 28] ty #[.slice (some ⟨g, 0, none⟩) n cap, vl]).run Try.prog w = .ok (.int .i64 (m : Nat)) w' ∧ w'.ownsRow 0 38 11 (.slice (some ⟨g, 0, none⟩) n cap) n (D ++ C.drop (m * 11)) ∧ Kp (fun i => i = g) w w' := by
  obtain ⟨i0, hi, hz0, hz1, hz2⟩ := info_parts infoO
  obtain ⟨hC, (⟨e, _⟩ | ⟨g', cap', cur, e, hb, hg, hnc, hcm, hcs, htk⟩)⟩ := h
  · simp at e
  simp only [Value.slice.injEq, Option.some.injEq, Addr.mk.injEq, and_true, true_and] at e
  obtain ⟨rfl, rfl⟩ := e
  have hst := run_storeCells_at Try.prog g 0 38 D 0 cur w hg (by rw [hD, hcs]; simp; omega) h1
  simp only [Nat.zero_add, List.take_zero, List.nil_append] at hst
  refine ⟨w.setRow g (D ++ cur.toList.drop D.length).toArray, ?_, ⟨?_, .inr ⟨g, cap, _, rfl, hb, setRow_heap w g cur _ _ _ hg, hnc, hcm, ?_, ?_⟩⟩, ⟨rfl, rfl, rfl, by simp, fun k _ hk => setRow_other w g k _ (fun e => hk e)⟩⟩
  · have hmin : Nat.min m n = m := Nat.min_eq_left hm
    have hgo : goInt m = .int .i64 (m : Nat) := rfl
    rcases hl with ⟨h0, a, c, rfl⟩ | ⟨b, off, c, rfl, _, _, hc⟩
    · subst h0
      have e : D = [] := List.eq_nil_of_length_eq_zero (by simpa using hD)
      subst e
      have hs : w.setRow g (([] : List Value) ++ cur.toList.drop ([] : List Value).length).toArray = w := by
        rw [List.nil_append, List.length_nil, List.drop_zero, Array.toArray_toList]
        exact setRow_self w g cur _ (0, 0) hg
      rw [hs]
      clear hst
      cases a with
      | none => simp [Builtin.copy_, run_underlying Try.underlying28, Builtin.lenOf, Builtin.firstCells, sizeOf, typeInfo, hi, storeCells, goInt]
      | some ad =>
        have hl := run_loadCells_list (P := Try.prog) w ad [] (fun j v hv => by simp at hv)
        simp only [List.length_nil] at hl
        simp [Builtin.copy_, run_underlying Try.underlying28, Builtin.lenOf, Builtin.firstCells, sizeOf, typeInfo, hi, hl, storeCells, goInt]
    · have hl := run_loadCells_list (P := Try.prog) w ⟨b, off, none⟩ D (fun j v hv => by rw [Addr.add_lit]; exact hc j v hv)
      rw [hD] at hl
      simp [Builtin.copy_, run_underlying Try.underlying28, Builtin.lenOf, Builtin.firstCells, sizeOf, typeInfo, hi, hz1, hmin, hl, hst, goInt]
  · rw [List.length_append, List.length_drop, hD, hC]
    omega
  · simp only [List.size_toArray, List.length_append, List.length_drop, Array.length_toList, hD, hcs]
    exact Nat.add_sub_cancel' (Nat.mul_le_mul_right 11 (Nat.le_trans hm hnc))
  · show (D ++ cur.toList.drop D.length).take (n * 11) = _
    rw [List.take_append, List.take_of_length_le (by rw [hD]; exact Nat.mul_le_mul_right 11 hm), show ((cur.toList.drop D.length).take (n * 11 - D.length)) = C.drop (m * 11) by rw [hD, ← htk, List.drop_take]]

theorem zeroO_one (n : Nat) : ∀ v ∈ (Builtin.zeroCells #[.int .i64 0, .int .i64 0, .slice none 0 0, .int .i64 0, .int .i64 0, .int .i64 0, .int .i64 0, .int .i64 0, .string ⟨#[]⟩, .slice none 0 0, .int .i64 0] n).toList, v.oneCell' = true := by
  intro v hv
  unfold Builtin.zeroCells at hv
  simp only [Array.toList_map, List.mem_map] at hv
  obtain ⟨i, _, rfl⟩ := hv
  have h : i % 11 < 11 := Nat.mod_lt _ (by omega)
  show (#[Value.int .i64 0, .int .i64 0, .slice none 0 0, .int .i64 0, .int .i64 0, .int .i64 0, .int .i64 0, .int .i64 0, .string ⟨#[]⟩, .slice none 0 0, .int .i64 0][i % 11]!).oneCell' = true
  generalize i % 11 = k at h
  obtain rfl | rfl | rfl | rfl | rfl | rfl | rfl | rfl | rfl | rfl | rfl : k = 0 ∨ k = 1 ∨ k = 2 ∨ k = 3 ∨ k = 4 ∨ k = 5 ∨ k = 6 ∨ k = 7 ∨ k = 8 ∨ k = 9 ∨ k = 10 := by omega
  all_goals rfl

theorem clear_own (w : World) (ty : TypeId) (g cap n m c' : Nat) (D R : List Value) (h : w.ownsRow 0 38 11 (.slice (some ⟨g, 0, none⟩) n cap) n (D ++ R)) (hD : D.length = m * 11) (hm : m ≤ n) :
    ∃ w', (Builtin.clear_ #[28] ty #[.slice (some ⟨g, m * 11, none⟩) (n - m) c']).run Try.prog w = .ok (.tuple #[]) w' ∧ w'.ownsRow 0 38 11 (.slice (some ⟨g, 0, none⟩) m cap) m D ∧ Kp (fun i => i = g) w w' := by
  obtain ⟨hC, (⟨e, _⟩ | ⟨g', cap', cur, e, hb, hg, hnc, hcm, hcs, htk⟩)⟩ := h
  · simp at e
  simp only [Value.slice.injEq, Option.some.injEq, Addr.mk.injEq, and_true, true_and] at e
  obtain ⟨rfl, rfl⟩ := e
  have htk2 : cur.toList.take (m * 11) = D := by
    have := congrArg (List.take (m * 11)) htk
    rw [List.take_take, Nat.min_eq_left (by omega)] at this
    rw [this, List.take_append_of_le_length (by omega), List.take_of_length_le (by omega)]
  by_cases h0 : n - m = 0
  · refine ⟨w, ?_, ⟨by omega, .inr ⟨g, cap, cur, rfl, hb, hg, by omega, hcm, hcs, htk2⟩⟩, Kp.refl _ _⟩
    rw [h0]
    simp [Builtin.clear_, run_underlying Try.underlying28]
  · obtain ⟨k, hk⟩ : ∃ k, n - m = k + 1 := ⟨n - m - 1, by omega⟩
    have hzl : (Builtin.zeroCells #[.int .i64 0, .int .i64 0, .slice none 0 0, .int .i64 0, .int .i64 0, .int .i64 0, .int .i64 0, .int .i64 0, .string ⟨#[]⟩, .slice none 0 0, .int .i64 0] (k + 1)).toList.length = (k + 1) * 11 := by simp [Builtin.zeroCells]
    have hone := zeroO_one (k + 1)
    obtain ⟨ZS, hZS⟩ : ∃ Z, Builtin.zeroCells #[.int .i64 0, .int .i64 0, .slice none 0 0, .int .i64 0, .int .i64 0, .int .i64 0, .int .i64 0, .int .i64 0, .string ⟨#[]⟩, .slice none 0 0, .int .i64 0] (k + 1) = Z := ⟨_, rfl⟩
    rw [hZS] at hzl hone
    have hfit : m * 11 + (k + 1) * 11 ≤ cap * 11 := by rw [← Nat.add_mul]; exact Nat.mul_le_mul_right 11 (by omega)
    have hst := run_storeCells_at Try.prog g (m * 11) 38 ZS.toList 0 cur w hg (by rw [hzl, hcs, Nat.add_zero]; exact hfit) hone
    simp only [Nat.add_zero] at hst
    obtain ⟨A, hA⟩ : ∃ A, (cur.toList.take (m * 11) ++ ZS.toList ++ cur.toList.drop (m * 11 + ZS.toList.length)).toArray = A := ⟨_, rfl⟩
    rw [hA] at hst
    refine ⟨w.setRow g A, ?_, ⟨hD, .inr ⟨g, cap, A, rfl, hb, setRow_heap w g cur _ _ _ hg, by omega, hcm, ?_, ?_⟩⟩, ⟨rfl, rfl, rfl, by simp, fun k _ hk => setRow_other w g k _ (fun e => hk e)⟩⟩
    · rw [hk]
      simp [Builtin.clear_, run_underlying Try.underlying28, Try.zeroValue38, Value.cells, hZS, hst]
    · rw [← hA]
      simp only [List.size_toArray, List.length_append, List.length_take, List.length_drop, Array.length_toList, hzl, hcs]
      rw [Nat.min_eq_left (by omega)]
      exact Nat.add_sub_cancel' hfit
    · rw [← hA]
      simp only [List.append_assoc]
      rw [List.take_append_of_le_length (by rw [List.length_take, Array.length_toList, hcs]; omega), List.take_take, Nat.min_self, htk2]

theorem sl_fromO (w : World) (a : Option Addr) (n c k : Nat) (hk : k ≤ n) (hn : n ≤ c) :
    (Instr.sliceAt 28 (.slice a n c) (some (.int .i64 (k : Nat))) none none).run Try.prog w = .ok (.slice (if c = k then a else a.map (·.add (k * 11))) (n - k) (c - k)) w := by
  obtain ⟨i0, hi, hz0, hz1, hz2⟩ := info_parts infoO
  have h1 : (k : Int) ≤ (n : Int) := by omega
  simp [Instr.sliceAt, Instr.slice, run_underlying Try.underlying28, sizeOf, typeInfo, hi, hz1, go_sem, h1, hk, hn]
theorem sl_toO (w : World) (a : Option Addr) (n c k : Nat) (hk : k ≤ c) :
    (Instr.sliceAt 28 (.slice a n c) none (some (.int .i64 (k : Nat))) none).run Try.prog w = .ok (.slice a k c) w := by
  obtain ⟨i0, hi, hz0, hz1, hz2⟩ := info_parts infoO
  have h1 : (k : Int) ≤ (c : Int) := by omega
  simp [Instr.sliceAt, Instr.slice, run_underlying Try.underlying28, sizeOf, typeInfo, hi, hz1, go_sem, h1, hk]

theorem wpList_copy_eq {w : World} {ops : Array Oper} {rest : List Oper} {o : Oper} {a : Act} {Q : Exit → Act → World → Prop} (hgd : o.guard = none) (s x : Operand) (t : TypeId)
    (ho : o.op = .call { callee := .builtin .copy, args := #[s, x], argTypes := #[t, t] }) (v u v' : Value) (w' : World) (hs : a.eval s = v) (hx : a.eval x = u) (hr : (Builtin.copy_ #[t, t] o.type #[v, u]).run Try.prog w = .ok v' w')
    (h : wpList Try.prog ops Q rest (a.put o.dst v') w') : wpList Try.prog ops Q (o :: rest) a w := by
  refine wpList_plain hgd fun K hK => ?_
  unfold Oper.wp execOp
  simp only [ho, resolve, invoke, builtin, Sem.run_bind, Sem.run_pure, Result.andThen_ok, List.map_toArray, List.map_cons, List.map_nil, hs, hx, hr]
  exact hK _ _ h
theorem wpList_clear_eq {w : World} {ops : Array Oper} {rest : List Oper} {o : Oper} {a : Act} {Q : Exit → Act → World → Prop} (hgd : o.guard = none) (s : Operand) (t : TypeId)
    (ho : o.op = .call { callee := .builtin .clear, args := #[s], argTypes := #[t] }) (v v' : Value) (w' : World) (hs : a.eval s = v) (hr : (Builtin.clear_ #[t] o.type #[v]).run Try.prog w = .ok v' w')
    (h : wpList Try.prog ops Q rest (a.put o.dst v') w') : wpList Try.prog ops Q (o :: rest) a w := by
  refine wpList_plain hgd fun K hK => ?_
  unfold Oper.wp execOp
  simp only [ho, resolve, invoke, builtin, Sem.run_bind, Sem.run_pure, Result.andThen_ok, List.map_toArray, List.map_cons, List.map_nil, hs, hr]
  exact hK _ _ h
theorem RC.owned {W : World} {v : Value} {n : Nat} {C : List Value} (h : RC W v n C) : ∃ a c, v = .slice a n c := h.form
/-- a log whose list is another one -/
theorem LG.list {P : Nat → Prop} {W W' : World} {b : Nat} {vb vh vo v' : Value} {base hv : List (Int × Int)} {ops left : List (Opn × Value × Value)} (h : LG P W b vb vh vo base hv ops) (k : Kp (fun i => i = b ∨ vo.ownBlock = some i) W W') (hb : Bx W' b 30 #[vb, vh, v']) (ho : W'.ownsRow 0 38 11 v' left.length (flat encO left)) (hm : ∀ e ∈ left, e ∈ ops) (hv' : ∀ i, v'.ownBlock = some i → P i) : LG P W' b vb vh v' base hv left := by
  have tD : ∀ {B n : Nat} {v : Value} {C : List Value}, W.ownsRow B 33 2 v n C → ∀ i, v.ownBlock = some i → ¬ (i = b ∨ vo.ownBlock = some i) := fun hr i hi e => by
    rcases e with e | e
    · exact own_ne_box hr h.box (by decide) (by rw [hi, e])
    · exact own_ne_own hr h.ro (by decide) i hi e
  have tR : ∀ {B n : Nat} {v : Value} {C : List Value}, W.ownsRow B 62 3 v n C → ∀ i, v.ownBlock = some i → ¬ (i = b ∨ vo.ownBlock = some i) := fun hr i hi e => by
    rcases e with e | e
    · exact own_ne_box hr h.box (by decide) (by rw [hi, e])
    · exact own_ne_own hr h.ro (by decide) i hi e
  refine ⟨hb, owns_kp h.rb k (tD h.rb), owns_kp h.rh k (tD h.rh), ho, fun e he => ?_, h.pb, h.pvb, h.pvh, hv', h.lb, h.lh⟩
  have oe := h.re e (hm e he)
  exact ⟨owns_kp oe.d k (tD oe.d), owns_kp oe.g k (tR oe.g), oe.pd, oe.pg, oe.s1, oe.s2, oe.s3⟩
theorem flat_one {P : Nat → Prop} {W : World} {l : List (Opn × Value × Value)} (h : ∀ e ∈ l, OE P W e) : ∀ v ∈ flat encO l, v.oneCell' = true := fun v hv => by
  obtain ⟨e, he, hx⟩ := flat_mem hv
  exact (h e he).one v hx
set_option maxRecDepth 100000 in
set_option maxHeartbeats 4000000 in
theorem keep_in {P : Nat → Prop} {w : World} {b : Nat} {vb vh vo : Value} {base hv : List (Int × Int)} {ops : List (Opn × Value × Value)} (h : LG P w b vb vh vo base hv ops) (vl : Value) (left : List (Opn × Value × Value)) (hr : RC w vl left.length (flat encO left)) (hl : left.length ≤ ops.length) (hm : ∀ e ∈ left, e ∈ ops) :
    Calls Try.prog 27 #[.pointer (some ⟨b, 0, none⟩), vl] w fun e W => e = .returned (.tuple #[]) ∧ (∃ v', LG P W b vb vh v' base hv left ∧ v'.ownBlock = vo.ownBlock) ∧ Kp (fun i => i = b ∨ vo.ownBlock = some i) w W := by
  obtain ⟨al, cl, rfl⟩ := hr.form
  have c0 := h.box.cell 2 _ rfl
  have hbl := h.box.lt
  rcases h.ro.2 with ⟨hvo, hn0⟩ | ⟨g, cap, cur, hvo, _, _, hcap, _⟩
  · -- nothing is kept
    subst hvo
    have e0 : left = [] := List.eq_nil_of_length_eq_zero (by omega)
    have e1 : ops = [] := List.eq_nil_of_length_eq_zero hn0
    subst e0 e1
    simp only [List.length_nil] at *
    have f0 := h.box.frozen 2
    have s0 : w.setCell ⟨b, 2, none⟩ (.slice none 0 0) = w := h.box.same 2 _ rfl
    have hcp : (Builtin.copy_ #[28, 28] 3 #[.slice none 0 0, .slice al 0 cl]).run Try.prog w = .ok (.int .i64 0) w := by
      obtain ⟨i0, hi, hz0, hz1, hz2⟩ := info_parts infoO
      cases al with
      | none => simp [Builtin.copy_, run_underlying Try.underlying28, Builtin.lenOf, Builtin.firstCells, sizeOf, typeInfo, hi, goInt]
      | some ad =>
        have hl := run_loadCells_list (P := Try.prog) w ad [] (fun j v hv => by simp at hv)
        simp only [List.length_nil] at hl
        simp [Builtin.copy_, run_underlying Try.underlying28, Builtin.lenOf, Builtin.firstCells, sizeOf, typeInfo, hi, hl, goInt]
    have hcl : (Builtin.clear_ #[28] 0 #[.slice none 0 0]).run Try.prog w = .ok (.tuple #[]) w := by simp [Builtin.clear_, run_underlying Try.underlying28]
    have H := hide h
    clear h hr
    go_enter Try.func27, Try.ntmps27
    go_wp2
    refine bodyPost_end (results_none rfl _ _ _) rfl ?_
    exact ⟨rfl, ⟨_, unhide H, rfl⟩, Kp.refl _ _⟩
  · subst hvo
    obtain ⟨m, hm0⟩ : ∃ m, left.length = m := ⟨_, rfl⟩
    have ho := h.ro
    have h1 := flat_one (fun e he => h.re e (hm e he))
    obtain ⟨w1, hcp, ho1, k1⟩ := copy_own w 3 g cap ops.length left.length (flat encO ops) (flat encO left) _ ho hr (flat_len encO_len left) hl h1
    have hgb : g ≠ b := fun e => own_ne_box ho h.box (by decide) (by rw [e]; rfl)
    have bx1 := h.box.kp k1 (fun e => hgb e.symm)
    rw [hm0] at hcp hl hr ⊢
    have hlc : (m : Int) ≤ (ops.length : Int) := by omega
    have hlc2 : (ops.length : Int) ≤ (cap : Int) := by omega
    obtain ⟨w2, hcl, ho2, k2⟩ : ∃ w2, (Builtin.clear_ #[28] 0 #[.slice (if cap = m then some ⟨g, 0, none⟩ else some ⟨g, m * 11, none⟩) (ops.length - m) (cap - m)]).run Try.prog w1 = .ok (.tuple #[]) w2 ∧ w2.ownsRow 0 38 11 (.slice (some ⟨g, 0, none⟩) m cap) m (flat encO left) ∧ Kp (fun i => i = g) w1 w2 := by
      obtain ⟨w2, q1, q2, q3⟩ := clear_own w1 0 g cap ops.length m (cap - m) _ _ ho1 (by rw [flat_len encO_len, hm0]) hl
      refine ⟨w2, ?_, q2, q3⟩
      by_cases hc : cap = m
      · rw [if_pos hc, show ops.length - m = 0 by omega] at *
        have e2 : (Builtin.clear_ #[28] 0 #[.slice (some ⟨g, m * 11, none⟩) 0 (cap - m)]).run Try.prog w1 = .ok (.tuple #[]) w1 := by simp [Builtin.clear_, run_underlying Try.underlying28]
        rw [e2] at q1
        injection q1 with _ e3
        subst e3
        simp [Builtin.clear_, run_underlying Try.underlying28]
      · rw [if_neg hc]; exact q1
    obtain ⟨AA, hAA⟩ : ∃ A, (if cap = m then some (⟨g, 0, none⟩ : Addr) else some ⟨g, m * 11, none⟩) = A := ⟨_, rfl⟩
    rw [hAA] at hcl
    have hsf : ∀ W, (Instr.sliceAt 28 (.slice (some ⟨g, 0, none⟩) ops.length cap) (some (.int .i64 (m : Nat))) none none).run Try.prog W = .ok (.slice AA (ops.length - m) (cap - m)) W := fun W => by
      have := sl_fromO W (some ⟨g, 0, none⟩) ops.length cap m hl hcap
      rw [this, ← hAA]
      by_cases hc : cap = m
      · rw [if_pos hc, if_pos hc]
      · rw [if_neg hc, if_neg hc]
        simp [Addr.add_lit]
    have hst : ∀ W, (Instr.sliceAt 28 (.slice (some ⟨g, 0, none⟩) ops.length cap) none (some (.int .i64 (m : Nat))) none).run Try.prog W = .ok (.slice (some ⟨g, 0, none⟩) m cap) W := fun W => sl_toO W _ _ _ _ (by omega)
    have bx2 := bx1.kp k2 (fun e => hgb e.symm)
    have c1 := bx1.cell 2 _ rfl
    have c2 := bx2.cell 2 _ rfl
    have f2 := bx2.frozen 2
    have l1 := bx1.lt
    have l2 := bx2.lt
    have k3 := Kp.set (N := fun i => i = b) w2 ⟨b, 2, none⟩ (.slice (some ⟨g, 0, none⟩) m cap) rfl
    have KK : Hid (Kp (fun i => i = b ∨ (Value.slice (some ⟨g, 0, none⟩) ops.length cap).ownBlock = some i) w (w2.setCell ⟨b, 2, none⟩ (.slice (some ⟨g, 0, none⟩) m cap))) := ((k1.wk (fun i e => .inr (by rw [e]; rfl))).trans k2 (fun i e => .inl (.inr (by rw [e]; rfl)))).trans k3 (fun i e => .inl (.inl e))
    have HF := hide (h.list (left := left) (v' := .slice (some ⟨g, 0, none⟩) m cap) (unhide KK) (by have := bx2.set 2 (.slice (some ⟨g, 0, none⟩) m cap); simpa using this) (by rw [hm0]; exact owns_kp ho2 k3 (fun i hi e => by simp [Value.ownBlock] at hi; omega)) hm (fun i hi => h.pvo i (by simpa [Value.ownBlock] using hi)))
    clear h hr ho h1 ho1 k1 bx1 bx2 ho2 k2 k3 hm hAA hm0
    go_enter Try.func27, Try.ntmps27
    go_wp2
    refine bodyPost_end (results_none rfl _ _ _) rfl ?_
    exact ⟨rfl, ⟨_, unhide HF, rfl⟩, unhide KK⟩

end Go.Proofs.Ytehmbbnmjiojgaa
