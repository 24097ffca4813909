/-
  A queue: cut.
-/
import Derived.Test.YtkkolefionbbcaaGreatZCQ9
import Derived.Test.YtkkolefionbbcaaGreatZXReg
set_option linter.unusedSimpArgs false
set_option linter.unusedVariables false
namespace Go.Proofs.YtkkolefionbbcaaGreat
open Go.RowKit Go.Lib

theorem run_appendO {P : Program} {o : Oper} {ρ : Operand → Value} {w : World} {v' : Value} {w' : World} (s x : Operand) (t : TypeId)
    (ho : o.op = .call { callee := .builtin .append, args := #[s, x], argTypes := #[t, t] }) {v u : Value} (hs : ρ s = v) (hx : ρ x = u) (hr : (Builtin.append_ #[t, t] o.type #[v, u]).run P w = .ok v' w') : (execOp ρ o).run P w = .ok (.value v') w' := by
  unfold execOp
  simp only [ho, resolve, invoke, builtin, Sem.run_bind, Sem.run_pure, Result.andThen_ok, List.map_toArray, List.map_cons, List.map_nil, hs, hx, hr]
theorem frame_fn {a : Act} (N : Nat) (hs : a.tmps.size = N) (hd : a.defers = []) : a = { tmps := ((List.range N).map fun k => a.eval (.tmp k)).toArray, defers := [] } := by
  obtain ⟨t, d⟩ := a
  simp only at hs hd
  subst hd
  congr 1
  apply Array.ext
  · simp [hs]
  · intro i h1 h2
    simp [Act.eval, h1]
theorem own_ne_own {W : World} {B E k n B' E' k' n' : Nat} {v v' : Value} {C C' : List Value} (h : W.ownsRow B E k v n C) (h' : W.ownsRow B' E' k' v' n' C') (hn : E ≠ E') : ∀ i, v.ownBlock = some i → v'.ownBlock ≠ some i := fun i hi e => by
  obtain ⟨c, fz, hc⟩ := ownsRow_kind h i hi
  obtain ⟨c', fz', hc'⟩ := ownsRow_kind h' i e
  exact ne_types hc hc' hn
variable {P N : Nat → Prop} {w W W' : World} {b : Nat} {hold : Int} {vh vw vr : Value} {hv : List (Int × Int)} {ws rd : List (Opn × Value × Value)}
/-- a queue in which other ones wait -/
theorem QM.setw {v' : Value} {ws' : List (Opn × Value × Value)} (h : QM P W b hold vh vw vr hv ws rd) (k : Kp (fun i => i = b ∨ vw.ownBlock = some i) W W') (hb : Bx W' b 49 #[.int .i64 hold, vh, v', vr]) (ho : W'.ownsRow 0 42 11 v' ws'.length (flat encO ws')) (hm : ws'.Sublist ws) (hv' : v'.ownBlock = vw.ownBlock) : QM P W' b hold vh v' vr hv ws' rd := by
  have tD : ∀ {B n : Nat} {v : Value} {C : List Value}, W.ownsRow B 28 2 v n C → ∀ i, v.ownBlock = some i → ¬ (i = b ∨ vw.ownBlock = some i) := fun hr i hi e => by
    rcases e with e | e
    · exact own_ne_box hr h.box (by decide) (by rw [hi, e])
    · exact own_ne_own hr h.rw (by decide) i hi e
  have hty : ∀ i, (i = b ∨ vw.ownBlock = some i) → ∃ t cur, Bx W i t cur ∧ t ≠ 28 ∧ t ≠ 72 := by
    intro i e
    rcases e with rfl | e
    · exact ⟨_, _, h.box, by decide, by decide⟩
    · obtain ⟨_, (⟨e1, _⟩ | ⟨g, cap, cur', e1, _, hg, _⟩)⟩ := h.rw
      · rw [e1] at e; cases e
      · rw [e1] at e
        simp [Value.ownBlock] at e
        subst e
        exact ⟨_, _, hg, by decide, by decide⟩
  refine ⟨hb, owns_kp h.rh k (tD h.rh), ho, h.rr.kp k (fun i hi e => ?_), fun e he => (h.we e (hm.subset he)).kt k hty, fun e he => (h.re e he).kt k hty, h.pb, h.ph, fun i hi => h.pw i (by rw [← hv']; exact hi), h.pr, fun i hi => h.ap i (by rw [← hv']; exact hi), h.hl, h.dj.sub (hm.append (List.Sublist.refl _))⟩
  rcases e with rfl | e
  · obtain ⟨cur, hc⟩ := h.rr.kind _ hi
    exact Bx.apart hc h.box (by decide) rfl
  · exact h.ap _ e hi
/-- inside the region of cut -/
structure CutJ (w : World) (g cap n : Nat) (D : List Value) (f : Nat → Bool) (W : World) : Prop where
  b0 : f 13 = false → Below w.heap.size w W
  fin : f 13 = true → ∃ R, W.ownsRow 0 42 11 (.slice (some ⟨g, 0, none⟩) n cap) n (D ++ R) ∧ Kp (fun i => i = g) w W
  l5 : f 5 = true → f 3 = true
  l12 : f 12 = true → f 9 = true
  l13 : f 13 = true → f 3 = true ∧ f 9 = true
theorem CutJ.no3 {g cap n : Nat} {D : List Value} {f : Nat → Bool} (h : CutJ w g cap n D f W) (h3 : f 3 = false) : f 13 = false := by
  cases e : f 13 with
  | false => rfl
  | true => rw [(h.l13 e).1] at h3; cases h3
theorem CutJ.no9 {g cap n : Nat} {D : List Value} {f : Nat → Bool} (h : CutJ w g cap n D f W) (h3 : f 9 = false) : f 13 = false := by
  cases e : f 13 with
  | false => rfl
  | true => rw [(h.l13 e).2] at h3; cases h3
theorem CutJ.nop {g cap n : Nat} {D : List Value} {f : Nat → Bool} (h : CutJ w g cap n D f W) (i : Nat) (h1 : (13 == i) = false) (h5 : (5 == i) = true → f 3 = true) (h12 : (12 == i) = true → f 9 = true) : CutJ w g cap n D (fun q => f q || q == i) W := by
  refine ⟨?_, ?_, ?_, ?_, ?_⟩ <;> (try simp only [h1, Bool.or_false])
  · exact h.b0
  · exact h.fin
  · intro e
    rcases Bool.or_eq_true_iff.1 e with e | e
    · rw [h.l5 e]; rfl
    · rw [h5 e]; rfl
  · intro e
    rcases Bool.or_eq_true_iff.1 e with e | e
    · rw [h.l12 e]; rfl
    · rw [h12 e]; rfl
  · intro e
    rw [(h.l13 e).1, (h.l13 e).2]
    exact ⟨rfl, rfl⟩
set_option maxRecDepth 100000 in
set_option maxHeartbeats 4000000 in
theorem cut_in (h : QM P w b hold vh vw vr hv ws rd) (i : Nat) (hi : i < ws.length) (hl : ws.length ≤ 1000000) :
    Calls Tryz.prog 73 #[.pointer (some ⟨b, 0, none⟩), .int .i64 (i : Nat)] w fun e W => e = .returned (.tuple #[]) ∧ (∃ v', QM P W b hold vh v' vr hv (cutI ws i) rd) ∧ Kp (fun k => k = b ∨ vw.ownBlock = some k) w W := by
  rcases h.rw.2 with ⟨hvo, hn0⟩ | ⟨g, cap, cur, hvo, _, _, hcap, hcm, _⟩
  · omega
  subst hvo
  obtain ⟨n, hn⟩ : ∃ n, ws.length = n := ⟨_, rfl⟩
  have hin : i < n := by omega
  obtain ⟨x, hx⟩ : ∃ x, ws[i]? = some x := ⟨_, List.getElem?_eq_getElem hi⟩
  have hsp : ws = ws.take i ++ x :: ws.drop (i + 1) := by
    have := List.getElem?_eq_some_iff.1 hx
    obtain ⟨h0, h1⟩ := this
    rw [← h1, ← List.drop_eq_getElem_cons h0, List.take_append_drop]
  obtain ⟨A, hA0⟩ : ∃ A, flat encO (ws.take i) = A := ⟨_, rfl⟩
  obtain ⟨X, hX0⟩ : ∃ X, encO x = X := ⟨_, rfl⟩
  obtain ⟨B, hB0⟩ : ∃ B, flat encO (ws.drop (i + 1)) = B := ⟨_, rfl⟩
  have hfl : flat encO ws = A ++ X ++ B := by
    rw [hsp, flat_append, flat_cons, hA0, hX0, hB0, List.append_assoc]
  have hcf : flat encO (cutI ws i) = A ++ B := by unfold cutI; rw [flat_append, hA0, hB0]
  have hA : A.length = i * 11 := by rw [← hA0, flat_len encO_len, List.length_take]; omega
  have hX : X.length = 11 := by rw [← hX0, encO_len]
  have hB : B.length = (n - (i + 1)) * 11 := by rw [← hB0, flat_len encO_len, List.length_drop, hn]
  have hcn : (cutI ws i).length = n - 1 := by have := cutI_len ws i hi; omega
  have H1 : Hid (∀ u ∈ B, u.oneCell' = true) := hide (fun u hu => by
    rw [← hB0] at hu
    obtain ⟨e, he, hx⟩ := flat_mem hu
    exact (h.we e (List.mem_of_mem_drop he)).one u hx)
  have ho := h.rw
  rw [hfl] at ho
  rw [hn] at ho h hcap
  have hgb : g ≠ b := fun e => own_ne_box ho h.box (by decide) (by rw [e]; rfl)
  have Hro := hide ho
  have Hh := hide h
  have C1 := hide (fun (W : World) (k : Below w.heap.size w W) => (h.box.below k).cell 2 _ rfl)
  obtain ⟨SR, hSR⟩ : ∃ SR, (if cap = i + 1 then some (⟨g, 0, none⟩ : Addr) else some ⟨g, (i + 1) * 11, none⟩) = SR := ⟨_, rfl⟩
  have hsf : ∀ W, (Instr.sliceAt 47 (.slice (some ⟨g, 0, none⟩) n cap) (some (.int .i64 ((i + 1 : Nat) : Int))) none none).run Tryz.prog W = .ok (.slice SR (n - (i + 1)) (cap - (i + 1))) W := fun W => by
    have := sl_fromO W (some ⟨g, 0, none⟩) n cap (i + 1) (by omega) hcap
    rw [this, ← hSR]
    by_cases hc : cap = i + 1
    · rw [if_pos hc, if_pos hc]
    · rw [if_neg hc, if_neg hc]
      simp [Addr.add_lit]
  have hst : ∀ W, (Instr.sliceAt 47 (.slice (some ⟨g, 0, none⟩) n cap) none (some (.int .i64 (i : Nat))) none).run Tryz.prog W = .ok (.slice (some ⟨g, 0, none⟩) i cap) W := fun W => sl_toO W _ _ _ _ (by omega)
  have hsm : ∀ W, (Instr.sliceAt 47 (.slice (some ⟨g, 0, none⟩) n cap) (some (.int .i64 ((n - 1 : Nat) : Int))) none none).run Tryz.prog W = .ok (.slice (some ⟨g, (n - 1) * 11, none⟩) (n - (n - 1)) (cap - (n - 1))) W := fun W => by
    have := sl_fromO W (some ⟨g, 0, none⟩) n cap (n - 1) (by omega) hcap
    rw [this, if_neg (by omega)]
    simp [Addr.add_lit]
  have hsf' : ∀ W, (Instr.sliceAt 47 (.slice (some ⟨g, 0, none⟩) n cap) (some (.int .i64 ((i : Int) + 1))) none none).run Tryz.prog W = .ok (.slice SR (n - (i + 1)) (cap - (i + 1))) W := fun W => by
    have := hsf W
    rwa [show ((i + 1 : Nat) : Int) = (i : Int) + 1 by omega] at this
  have hw1 : IntKind.i64.wrap ((i : Int) + 1) = (i : Int) + 1 := by simp only [IntKind.wrap_i64]; omega
  have J0 : Hid (CutJ w g cap n (A ++ B) (fun _ => false) w.drew) := ⟨fun _ => (Below.refl _ _).drew, fun e => Bool.noConfusion e, fun e => Bool.noConfusion e, fun e => Bool.noConfusion e, fun e => Bool.noConfusion e⟩
  clear h ho
  go_enter Tryz.func73, Tryz.ntmps73
  go_wp2_with fail
  refine wp_region_any (by kernel_rfl) ?_
  change wpAny _ _ _ _ _ _ _ (World.drew _)
  refine region_ss 30 (fun j => if j = 14 then 4 else 5 + j) ((0, (Value.pointer (some { block := b, off := 0 }))) :: (1, .int .i64 (i : Nat)) :: []) (CutJ w g cap n (A ++ B)) (valsOf [isV (Value.pointer (some { block := b, off := 0 })), isV (Value.pointer (some { block := b, off := 0 })), isV (Value.pointer (some { block := b, off := 2 })), isV (Value.slice (some ⟨g, 0, none⟩) n cap), isV (.int .i64 (i : Nat)), isV (.slice (some ⟨g, 0, none⟩) i cap), isV (Value.pointer (some { block := b, off := 0 })), isV (Value.pointer (some { block := b, off := 0 })), isV (Value.pointer (some { block := b, off := 2 })), isV (Value.slice (some ⟨g, 0, none⟩) n cap), isV (.int .i64 (i : Nat)), isV (.int .i64 ((i : Int) + 1)), isV (.slice SR (n - (i + 1)) (cap - (i + 1))), isV (.slice (some ⟨g, 0, none⟩) (n - 1) cap), isV (.slice (some ⟨g, 0, none⟩) (n - 1) cap)]) (fun _ _ _ => True) [] ?fit ?stable ?none ?steps ?fin _ _ ?sz rfl ?base (unhide J0)
  case fit => kernel_rfl
  case sz => rfl
  case base => intro p hp; repeat (first | (rcases List.mem_cons.1 hp with rfl | hp; · rfl) | cases hp)
  case none =>
    intro j o' ho hdn w1 v
    have hj : j < 15 := (Array.getElem?_eq_some_iff.1 ho).1
    exfalso
    obtain rfl | rfl | rfl | rfl | rfl | rfl | rfl | rfl | rfl | rfl | rfl | rfl | rfl | rfl | rfl : j = 0 ∨ j = 1 ∨ j = 2 ∨ j = 3 ∨ j = 4 ∨ j = 5 ∨ j = 6 ∨ j = 7 ∨ j = 8 ∨ j = 9 ∨ j = 10 ∨ j = 11 ∨ j = 12 ∨ j = 13 ∨ j = 14 := by omega
    all_goals (have e := Option.some.inj ho; rw [← e] at hdn; cases hdn)
  case stable =>
    intro j i f w1 w2 v hfj hfi hJ hv hG
    exact valsOf_stable (J := fun _ => True) (G := fun _ _ => True) (Stables.all (by repeat (refine Stables.same ?_)
                                                                                     exact Stables.nil)) j w1 w2 v trivial hv trivial
  case steps =>
    refine .cons (fun f ρ wz hf hfe hρ hJ hb hd => by
      refine StepU.ok (by decide) ?_
      have d0 : ρ (.tmp 0) = (Value.pointer (some { block := b, off := 0 })) := hb (0, _) (List.mem_of_getElem? (i := 0) rfl)
      exact step_move (.tmp 0) rfl ⟨trivial, hJ.nop 0 (by decide) (fun e => by cases e) (fun e => by cases e), d0⟩) ?_
    refine .cons (fun f ρ wz hf hfe hρ hJ hb hd => by
      refine StepU.ok (by decide) ?_
      have d0 : ρ (.tmp 5) = (Value.pointer (some { block := b, off := 0 })) := hd 0 _ rfl rfl
      exact step_val (v := (Value.pointer (some { block := b, off := 0 }))) (w' := wz) (by simp [go_sem, execOp, d0]) ⟨trivial, hJ.nop 1 (by decide) (fun e => by cases e) (fun e => by cases e), rfl⟩) ?_
    refine .cons (fun f ρ wz hf hfe hρ hJ hb hd => by
      refine StepU.ok (by decide) ?_
      have d0 : ρ (.tmp 6) = (Value.pointer (some { block := b, off := 0 })) := hd 0 _ rfl rfl
      exact step_val (v := (Value.pointer (some { block := b, off := 2 }))) (w' := wz) (by simp [go_sem, execOp, d0]) ⟨trivial, hJ.nop 2 (by decide) (fun e => by cases e) (fun e => by cases e), rfl⟩) ?_
    refine .cons (fun f ρ wz hf hfe hρ hJ hb hd => by
      refine StepU.ok (by decide) ?_
      have d0 : ρ (.tmp 7) = (Value.pointer (some { block := b, off := 2 })) := hd 0 _ rfl rfl
      have x0 := unhide C1 _ (hJ.b0 (hJ.no3 (hf 3 (.inl rfl))))
      exact step_val (v := (Value.slice (some ⟨g, 0, none⟩) n cap)) (w' := wz) (by simp [go_sem, execOp, d0, x0]) ⟨trivial, hJ.nop 3 (by decide) (fun e => by cases e) (fun e => by cases e), rfl⟩) ?_
    refine .cons (fun f ρ wz hf hfe hρ hJ hb hd => by
      refine StepU.ok (by decide) ?_
      have d0 : ρ (.tmp 1) = (.int .i64 (i : Nat)) := hb (1, _) (List.mem_of_getElem? (i := 1) rfl)
      exact step_move (.tmp 1) rfl ⟨trivial, hJ.nop 4 (by decide) (fun e => by cases e) (fun e => by cases e), d0⟩) ?_
    refine .cons (fun f ρ wz hf hfe hρ hJ hb hd => by
      refine StepU.ok (by decide) ?_
      have d0 : ρ (.tmp 8) = (Value.slice (some ⟨g, 0, none⟩) n cap) := hd 0 _ rfl rfl
      have d1 : ρ (.tmp 9) = (.int .i64 (i : Nat)) := hd 1 _ rfl rfl
      exact step_val (v := (.slice (some ⟨g, 0, none⟩) i cap)) (w' := wz) (by simp [execOp, d0, d1, hst]) ⟨trivial, hJ.nop 5 (by decide) (fun _ => hfe 0 _ rfl rfl) (fun e => by cases e), rfl⟩) ?_
    refine .cons (fun f ρ wz hf hfe hρ hJ hb hd => by
      refine StepU.ok (by decide) ?_
      have d0 : ρ (.tmp 0) = (Value.pointer (some { block := b, off := 0 })) := hb (0, _) (List.mem_of_getElem? (i := 0) rfl)
      exact step_move (.tmp 0) rfl ⟨trivial, hJ.nop 6 (by decide) (fun e => by cases e) (fun e => by cases e), d0⟩) ?_
    refine .cons (fun f ρ wz hf hfe hρ hJ hb hd => by
      refine StepU.ok (by decide) ?_
      have d0 : ρ (.tmp 11) = (Value.pointer (some { block := b, off := 0 })) := hd 0 _ rfl rfl
      exact step_val (v := (Value.pointer (some { block := b, off := 0 }))) (w' := wz) (by simp [go_sem, execOp, d0]) ⟨trivial, hJ.nop 7 (by decide) (fun e => by cases e) (fun e => by cases e), rfl⟩) ?_
    refine .cons (fun f ρ wz hf hfe hρ hJ hb hd => by
      refine StepU.ok (by decide) ?_
      have d0 : ρ (.tmp 12) = (Value.pointer (some { block := b, off := 0 })) := hd 0 _ rfl rfl
      exact step_val (v := (Value.pointer (some { block := b, off := 2 }))) (w' := wz) (by simp [go_sem, execOp, d0]) ⟨trivial, hJ.nop 8 (by decide) (fun e => by cases e) (fun e => by cases e), rfl⟩) ?_
    refine .cons (fun f ρ wz hf hfe hρ hJ hb hd => by
      refine StepU.ok (by decide) ?_
      have d0 : ρ (.tmp 13) = (Value.pointer (some { block := b, off := 2 })) := hd 0 _ rfl rfl
      have x0 := unhide C1 _ (hJ.b0 (hJ.no9 (hf 9 (.inl rfl))))
      exact step_val (v := (Value.slice (some ⟨g, 0, none⟩) n cap)) (w' := wz) (by simp [go_sem, execOp, d0, x0]) ⟨trivial, hJ.nop 9 (by decide) (fun e => by cases e) (fun e => by cases e), rfl⟩) ?_
    refine .cons (fun f ρ wz hf hfe hρ hJ hb hd => by
      refine StepU.ok (by decide) ?_
      have d0 : ρ (.tmp 1) = (.int .i64 (i : Nat)) := hb (1, _) (List.mem_of_getElem? (i := 1) rfl)
      exact step_move (.tmp 1) rfl ⟨trivial, hJ.nop 10 (by decide) (fun e => by cases e) (fun e => by cases e), d0⟩) ?_
    refine .cons (fun f ρ wz hf hfe hρ hJ hb hd => by
      refine StepU.ok (by decide) ?_
      have d0 : ρ (.tmp 15) = (.int .i64 (i : Nat)) := hd 0 _ rfl rfl
      exact step_val (v := (.int .i64 ((i : Int) + 1))) (w' := wz) (by simp [go_sem, execOp, d0, hw1, hρ.const]) ⟨trivial, hJ.nop 11 (by decide) (fun e => by cases e) (fun e => by cases e), rfl⟩) ?_
    refine .cons (fun f ρ wz hf hfe hρ hJ hb hd => by
      refine StepU.ok (by decide) ?_
      have d0 : ρ (.tmp 14) = (Value.slice (some ⟨g, 0, none⟩) n cap) := hd 0 _ rfl rfl
      have d1 : ρ (.tmp 16) = (.int .i64 ((i : Int) + 1)) := hd 1 _ rfl rfl
      exact step_val (v := (.slice SR (n - (i + 1)) (cap - (i + 1)))) (w' := wz) (by simp [execOp, d0, d1, hsf']) ⟨trivial, hJ.nop 12 (by decide) (fun e => by cases e) (fun _ => hfe 0 _ rfl rfl), rfl⟩) ?_
    refine .cons (fun f ρ wz hf hfe hρ hJ hb hd => by
      refine StepU.ok (by decide) ?_
      have d0 : ρ (.tmp 10) = (.slice (some ⟨g, 0, none⟩) i cap) := hd 0 _ rfl rfl
      have d1 : ρ (.tmp 17) = (.slice SR (n - (i + 1)) (cap - (i + 1))) := hd 1 _ rfl rfl
      have hbz := hJ.b0 (hf 13 (.inl rfl))
      obtain ⟨w', R, hr, ho', kk⟩ := append_cut wz 47 g cap n i A X B (owns_kp (N := fun _ => False) (unhide Hro) (Kp.of_below hbz) (fun _ _ x => x)) hA hX hin (unhide H1)
      rw [hSR] at hr
      refine step_val (v := (.slice (some ⟨g, 0, none⟩) (n - 1) cap)) (w' := w') (run_appendO (.tmp 10) (.tmp 17) 47 rfl d0 d1 hr) ⟨trivial, ⟨fun e => by simp at e, fun _ => ⟨R, ho', (Kp.of_below hbz).trans kk (fun i e => .inl e)⟩, fun e => by simp only [show ((5 : Nat) == 13) = false from rfl, Bool.or_false] at e; rw [hJ.l5 e]; rfl, fun e => by simp only [show ((12 : Nat) == 13) = false from rfl, Bool.or_false] at e; rw [hJ.l12 e]; rfl, fun _ => ⟨by rw [hJ.l5 (hfe 0 _ rfl rfl)]; rfl, by rw [hJ.l12 (hfe 1 _ rfl rfl)]; rfl⟩⟩, rfl⟩) ?_
    refine .cons (fun f ρ wz hf hfe hρ hJ hb hd => by
      refine StepU.ok (by decide) ?_
      exact step_assign (.tmp 18) rfl ⟨trivial, hJ.nop 14 (by decide) (fun e => by cases e) (fun e => by cases e), hd 0 _ rfl rfl⟩) ?_
    exact .nil _
  case fin =>
    intro a W1 hsz2 hds hb hJ hv
    obtain ⟨f, hf, hJ⟩ := hJ
    obtain ⟨R, ho1, k1⟩ := hJ.fin (hf 13 (by decide))
    have e4 : a.eval (.tmp 4) = .slice (some ⟨g, 0, none⟩) (n - 1) cap := hv 14 (by decide)
    have e0 : a.eval (.tmp 0) = (Value.pointer (some { block := b, off := 0 })) := hb (0, _) (List.mem_of_getElem? (i := 0) rfl)
    clear hv hb hJ hf
    obtain ⟨u, rfl⟩ : ∃ u : Nat → Value, a = ⟨#[u 0, u 1, u 2, u 3, u 4, u 5, u 6, u 7, u 8, u 9, u 10, u 11, u 12, u 13, u 14, u 15, u 16, u 17, u 18, u 19, u 20, u 21, u 22, u 23, u 24, u 25, u 26, u 27, u 28, u 29], []⟩ := ⟨fun k => a.eval (.tmp k), frame_fn 30 hsz2 hds⟩
    change u 4 = _ at e4
    change u 0 = _ at e0
    rw [e0, e4]
    obtain ⟨w2, hcl, ho2, k2⟩ := clear_own W1 0 g cap n (n - 1) (cap - (n - 1)) (A ++ B) R ho1 (by rw [List.length_append, hA, hB]; omega) (by omega)
    have bx1 := (unhide Hh).box.kp k1 (fun e => hgb e.symm)
    have bx2 := bx1.kp k2 (fun e => hgb e.symm)
    have c1 : W1.cell? ⟨b, 2, none⟩ = some (.slice (some ⟨g, 0, none⟩) n cap) := bx1.cell 2 _ rfl
    have c2 : w2.cell? ⟨b, 2, none⟩ = some (.slice (some ⟨g, 0, none⟩) n cap) := bx2.cell 2 _ rfl
    have f2 : w2.frozen? ⟨b, 2, none⟩ = false := bx2.frozen 2
    have l2 := bx2.lt
    have k3 := Kp.set (N := fun i => i = b) w2 ⟨b, 2, none⟩ (.slice (some ⟨g, 0, none⟩) (n - 1) cap) rfl
    have KK : Hid (Kp (fun i => i = b ∨ (Value.slice (some ⟨g, 0, none⟩) n cap).ownBlock = some i) w (w2.setCell ⟨b, 2, none⟩ (.slice (some ⟨g, 0, none⟩) (n - 1) cap))) := ((k1.wk (fun i e => .inr (by rw [e]; rfl))).trans k2 (fun i e => .inl (.inr (by rw [e]; rfl)))).trans k3 (fun i e => .inl (.inl e))
    have HF := hide ((unhide Hh).setw (ws' := cutI ws i) (v' := .slice (some ⟨g, 0, none⟩) (n - 1) cap) (unhide KK) (by have := bx2.set 2 (.slice (some ⟨g, 0, none⟩) (n - 1) cap); simpa using this) (by rw [hcn, hcf]; exact owns_kp ho2 k3 (fun i hi e => by simp [Value.ownBlock] at hi; omega)) (cutI_subl ws i) rfl)
    have hnn : ((n - 1 : Nat) : Int) ≤ (n : Int) := by omega
    clear e0 e4 ho1 k1 ho2 k2 bx1 bx2 k3 hds hsz2 hfl hcf hA0 hX0 hB0 hcn hsp hx hn hi hA hB hX Hro J0 C1 hSR hsf hsf' hst hw1
    go_wp2
    refine bodyPost_end (results_none rfl _ _ _) rfl ?_
    exact ⟨rfl, ⟨_, unhide HF⟩, unhide KK⟩

end Go.Proofs.YtkkolefionbbcaaGreat
