/-
  A queue: await.
-/
import Derived.Test.YtkkolefionbbcaaGreatZCQB
set_option linter.unusedSimpArgs false
set_option linter.unusedVariables false
namespace Go.Proofs.YtkkolefionbbcaaGreat
open Go.RowKit Go.Lib

variable {P N : Nat → Prop} {w W W' : World} {b : Nat} {hold : Int} {vh vw vr : Value} {hv : List (Int × Int)} {ws rd : List (Opn × Value × Value)}
def AwV7 (Z : World) (vw : Value) (l : List (Opn × Value × Value)) (W : World) (v : Value) : Prop := W.ownsRow 0 42 11 v l.length (flat encO l) ∧ (v.ownBlock = vw.ownBlock ∨ ∃ k, v.ownBlock = some k ∧ Z.heap.size ≤ k)
/-- inside the region of await -/
structure AwJ (Z : World) (b : Nat) (hold : Int) (vh vw vr : Value) (l : List (Opn × Value × Value)) (f : Nat → Bool) (W : World) : Prop where
  kz : Kp (fun k => k = b ∨ vw.ownBlock = some k) Z W
  k0 : f 10 = false → Kp (fun k => vw.ownBlock = some k) Z W
  bz : f 7 = false → f 10 = false → Below Z.heap.size Z W
  fin : f 10 = true → ∃ v, Bx W b 49 #[.int .i64 hold, vh, v, vr] ∧ AwV7 Z vw l W v
theorem AwJ.nop {Z : World} {l : List (Opn × Value × Value)} {f : Nat → Bool} (h : AwJ Z b hold vh vw vr l f W) (i : Nat) (h1 : (10 == i) = false) (h2 : (7 == i) = false) : AwJ Z b hold vh vw vr l (fun q => f q || q == i) W := by
  refine ⟨h.kz, ?_, ?_, ?_⟩ <;> simp only [h1, h2, Bool.or_false]
  · exact h.k0
  · exact h.bz
  · exact h.fin
theorem AwJ.below {Z : World} {l : List (Opn × Value × Value)} {f : Nat → Bool} (h : AwJ Z b hold vh vw vr l f W) (hb : Below W.heap.size W W') : AwJ Z b hold vh vw vr l f W' :=
  ⟨h.kz.trans (Kp.of_below (N := fun _ => False) hb) (fun i e => .inl e.elim), fun e => (h.k0 e).trans (Kp.of_below (N := fun _ => False) hb) (fun i e => .inl e.elim), fun e e' => bnext (h.bz e e') hb, fun e => by
    obtain ⟨v, q1, q2, q3⟩ := h.fin e
    exact ⟨v, q1.below hb, owns_kp q2 (Kp.of_below (N := fun _ => False) hb) (fun _ _ e => e), q3⟩⟩
theorem AwJ.app {Z : World} {l : List (Opn × Value × Value)} {f : Nat → Bool} (h : AwJ Z b hold vh vw vr l f W) (kk : Kp (fun k => vw.ownBlock = some k) W W') (h11 : f 10 = false) : AwJ Z b hold vh vw vr l (fun q => f q || q == 7) W' :=
  ⟨h.kz.trans kk (fun i e => .inl (.inr e)), fun e => (h.k0 h11).trans kk (fun i e => .inl e), fun e => by simp at e, fun e => by simp [h11] at e⟩
/-- what await answers -/
def awR (hold : Int) (os : List Opn) (o : Opn) : Int := if (os.length : Int) < hold then 2 else if farI (os ++ [o]) = os.length then 4 else 2
/-- what waits behind it -/
def awW {α : Type} (hold : Int) (os : List Opn) (o : Opn) (ws : List α) : List α := if (os.length : Int) < hold then ws else cutI ws (farI (os ++ [o]))
/-- what await leaves -/
def AwtA (P : Nat → Prop) (w : World) (b : Nat) (hold : Int) (vh vr : Value) (hv : List (Int × Int)) (ws rd : List (Opn × Value × Value)) (x : Opn × Value × Value) (e : Ending) (W : World) : Prop := e = .returned (.int .i64 (awR hold (ws.map Prod.fst) x.1)) ∧ (∃ vw', QM (fun i => P i ∨ w.heap.size ≤ i) W b hold vh vw' vr hv (awW hold (ws.map Prod.fst) x.1 (ws ++ [x])) rd) ∧ Kp P w W
set_option maxRecDepth 100000 in
set_option maxHeartbeats 4000000 in
theorem await_in (h : QM P w b hold vh vw vr hv ws rd) (x : Opn × Value × Value) (hx : OE P w x) (hap : Apt vh (x :: (ws ++ rd))) (hl : ws.length ≤ 999999) (hh : 0 ≤ hold ∧ hold ≤ 256) :
    Calls Tryz.prog 46 #[.pointer (some ⟨b, 0, none⟩), opA x.1 x.2.1 x.2.2] w (AwtA P w b hold vh vr hv ws rd x) := by
  have Hap := hide hap
  clear hap
  obtain ⟨o, vd, vg⟩ := x
  obtain ⟨ad, cd, hvd⟩ := OwD.form hx.d
  obtain ⟨ag, cg, hvg⟩ := OwR.form hx.g
  simp only at hvd hvg
  subst hvd hvg
  obtain ⟨nd, hnd⟩ : ∃ nd, o.deps.length = nd := ⟨_, rfl⟩
  obtain ⟨ng, hng⟩ : ∃ ng, o.gone.length = ng := ⟨_, rfl⟩
  obtain ⟨W1, hX0⟩ : ∃ X0, w.alloc (.cells #[.int .i64 o.ds, .int .i64 o.dq, .slice ad nd cd, .int .i64 o.kind, .int .i64 o.it, .int .i64 o.is, .int .i64 o.rt, .int .i64 o.rs, .string o.text, .slice ag ng cg, .int .i64 o.site] 42) = X0 := ⟨_, rfl⟩
  have b0 : Below w.heap.size w W1 := by rw [← hX0]; exact ballc (Below.refl _ _) _
  have B0 : Bx W1 w.heap.size 42 #[.int .i64 o.ds, .int .i64 o.dq, .slice ad nd cd, .int .i64 o.kind, .int .i64 o.it, .int .i64 o.is, .int .i64 o.rt, .int .i64 o.rs, .string o.text, .slice ag ng cg, .int .i64 o.site] := by rw [← hX0]; exact Bx.new _ _ _
  have hbl := h.box.lt
  have h0 := h.below b0
  have Hbx1 := hide h0.box
  have Hbl1 := hide (show b < W1.heap.size from h0.box.lt)
  have hvl0 : ∀ i, vw.ownBlock = some i → i < w.heap.size := fun i hi => (h.rw.lt i hi).2
  have hbv : vw.ownBlock ≠ some b := own_ne_box h.rw h.box (by decide)
  have Hbv := hide hbv
  have Hrr := hide h0.rw
  have Hone : Hid (∀ u ∈ encO (o, Value.slice ad nd cd, Value.slice ag ng cg), u.oneCell' = true) := hide (by rw [← hnd, ← hng]; exact hx.one)
  have C1 : Hid (∀ W, Kp (fun k => vw.ownBlock = some k) W1 W → W.cell? ⟨b, 2, none⟩ = some vw) := hide (fun W k => (h0.box.kp k hbv).cell 2 _ rfl)
  have C2 : Hid (∀ W, Kp (fun k => k = b ∨ vw.ownBlock = some k) W1 W → W.cell? ⟨w.heap.size, 0, none⟩ = some (.int .i64 o.ds) ∧ W.cell? ⟨w.heap.size, 1, none⟩ = some (.int .i64 o.dq) ∧ W.cell? ⟨w.heap.size, 2, none⟩ = some (.slice ad nd cd) ∧ W.cell? ⟨w.heap.size, 3, none⟩ = some (.int .i64 o.kind) ∧ W.cell? ⟨w.heap.size, 4, none⟩ = some (.int .i64 o.it) ∧ W.cell? ⟨w.heap.size, 5, none⟩ = some (.int .i64 o.is) ∧ W.cell? ⟨w.heap.size, 6, none⟩ = some (.int .i64 o.rt) ∧ W.cell? ⟨w.heap.size, 7, none⟩ = some (.int .i64 o.rs) ∧ W.cell? ⟨w.heap.size, 8, none⟩ = some (.string o.text) ∧ W.cell? ⟨w.heap.size, 9, none⟩ = some (.slice ag ng cg) ∧ W.cell? ⟨w.heap.size, 10, none⟩ = some (.int .i64 o.site)) := hide (fun W k => by
    have q := B0.kp k (fun e => e.elim (fun e => by omega) (fun e => by have := hvl0 _ e; omega))
    exact ⟨q.cell 0 _ rfl, q.cell 1 _ rfl, q.cell 2 _ rfl, q.cell 3 _ rfl, q.cell 4 _ rfl, q.cell 5 _ rfl, q.cell 6 _ rfl, q.cell 7 _ rfl, q.cell 8 _ rfl, q.cell 9 _ rfl, q.cell 10 _ rfl⟩)
  have J1 : Hid (AwJ W1 b hold vh vw vr (ws ++ [(o, Value.slice ad nd cd, Value.slice ag ng cg)]) (fun _ => false) W1.drew) := ⟨Kp.of_below (Below.refl _ _).drew, fun _ => Kp.of_below (Below.refl _ _).drew, fun _ _ => (Below.refl _ _).drew, fun e => Bool.noConfusion e⟩
  have Hh := hide h
  have Hx := hide hx
  have Hb0 := hide b0
  unfold opA
  rw [hnd, hng]
  clear h hx h0 B0 b0
  go_enter Tryz.func46, Tryz.ntmps46
  go_wp2_with fail
  refine wp_region_any (by kernel_rfl) ?_
  change wpAny _ _ _ _ _ _ _ (World.drew _)
  refine region_sw 40 (fun j => if j = 10 then 100 else 7 + j) ((0, (Value.pointer (some { block := b, off := 0 }))) :: (3, (Value.pointer (some { block := w.heap.size, off := 0 }))) :: []) (AwJ W1 b hold vh vw vr (ws ++ [(o, Value.slice ad nd cd, Value.slice ag ng cg)])) (valsOf [isV (Value.pointer (some { block := b, off := 0 })), isV (Value.pointer (some { block := b, off := 0 })), isV (Value.pointer (some { block := b, off := 0 })), isV (Value.pointer (some { block := b, off := 2 })), isV vw, isV (.agg #[.int .i64 o.ds, .int .i64 o.dq, .slice ad nd cd, .int .i64 o.kind, .int .i64 o.it, .int .i64 o.is, .int .i64 o.rt, .int .i64 o.rs, .string o.text, .slice ag ng cg, .int .i64 o.site]), (AqV6 W1 (o, Value.slice ad nd cd, Value.slice ag ng cg)), (AwV7 W1 vw (ws ++ [(o, Value.slice ad nd cd, Value.slice ag ng cg)])), isV (Value.pointer (some { block := b, off := 0 })), isV (Value.pointer (some { block := b, off := 2 })), (fun _ _ => True)]) (fun i w1 w2 => Kp (fun k => (i = 7 ∧ vw.ownBlock = some k) ∨ (i = 10 ∧ k = b)) w1 w2) [] ?fit ?stable ?none ?steps ?fin _ _ ?sz rfl ?base (unhide J1)
  case fit => kernel_rfl
  case sz => rfl
  case base => intro p hp; repeat (first | (rcases List.mem_cons.1 hp with rfl | hp; · rfl) | cases hp)
  case none =>
    intro j o' ho hdn w1 v
    have hj : j < 11 := (Array.getElem?_eq_some_iff.1 ho).1
    obtain rfl | rfl | rfl | rfl | rfl | rfl | rfl | rfl | rfl | rfl | rfl : j = 0 ∨ j = 1 ∨ j = 2 ∨ j = 3 ∨ j = 4 ∨ j = 5 ∨ j = 6 ∨ j = 7 ∨ j = 8 ∨ j = 9 ∨ j = 10 := by omega
    all_goals first | exact trivial | (exfalso; have e := Option.some.inj ho; rw [← e] at hdn; cases hdn)
  case stable =>
    intro j i f w1 w2 v hfj hfi hJ hv hG
    have hnz : ∀ k, ((i = 7 ∧ vw.ownBlock = some k) ∨ (i = 10 ∧ k = b)) → ¬ W1.heap.size ≤ k := fun k hk h => by
      rcases hk with ⟨_, hk⟩ | ⟨_, hk⟩
      · have := ((unhide Hrr).lt k hk).2; omega
      · have := unhide Hbl1; omega
    rcases Nat.lt_or_ge j 11 with hj | hj
    · obtain rfl | rfl | rfl | rfl | rfl | rfl | rfl | rfl | rfl | rfl | rfl : j = 0 ∨ j = 1 ∨ j = 2 ∨ j = 3 ∨ j = 4 ∨ j = 5 ∨ j = 6 ∨ j = 7 ∨ j = 8 ∨ j = 9 ∨ j = 10 := by omega
      · exact hv
      · exact hv
      · exact hv
      · exact hv
      · exact hv
      · exact hv
      · obtain ⟨nb, q2, q3, q4⟩ := hv
        exact ⟨nb, q2, q3, q4.kp hG (fun e => hnz _ e q3)⟩
      · obtain ⟨q2, q3⟩ := hv
        refine ⟨owns_kp q2 hG (fun k hk e => ?_), q3⟩
        rcases e with ⟨e, _⟩ | ⟨_, e⟩
        · rw [e] at hfi; rw [hfi] at hfj; cases hfj
        · rcases q3 with q3 | ⟨k', q3, hk'⟩
          · exact unhide Hbv (by rw [← q3, hk, e])
          · rw [q3] at hk; simp at hk; have := unhide Hbl1; omega
      · exact hv
      · exact hv
      · exact trivial
    · unfold valsOf
      rw [List.getD_eq_getElem?_getD, List.getElem?_eq_none (by simpa using hj)]
      exact trivial
  case steps =>
    refine .cons (fun f ρ wz hf hfe hρ hJ hb hd => by
      refine StepU.ok (by decide) ?_
      have d0 : ρ (.tmp 0) = (Value.pointer (some { block := b, off := 0 })) := hb (0, _) (List.mem_of_getElem? (i := 0) rfl)
      exact step_move (.tmp 0) rfl ⟨Kp.refl _ _, hJ.nop 0 (by decide) (by decide), d0⟩) ?_
    refine .cons (fun f ρ wz hf hfe hρ hJ hb hd => by
      refine StepU.ok (by decide) ?_
      have d0 : ρ (.tmp 0) = (Value.pointer (some { block := b, off := 0 })) := hb (0, _) (List.mem_of_getElem? (i := 0) rfl)
      exact step_move (.tmp 0) rfl ⟨Kp.refl _ _, hJ.nop 1 (by decide) (by decide), d0⟩) ?_
    refine .cons (fun f ρ wz hf hfe hρ hJ hb hd => by
      refine StepU.ok (by decide) ?_
      have d0 : ρ (.tmp 8) = (Value.pointer (some { block := b, off := 0 })) := hd 0 _ rfl rfl
      exact step_val (v := (Value.pointer (some { block := b, off := 0 }))) (w' := wz) (by simp [go_sem, execOp, d0]) ⟨Kp.refl _ _, hJ.nop 2 (by decide) (by decide), rfl⟩) ?_
    refine .cons (fun f ρ wz hf hfe hρ hJ hb hd => by
      refine StepU.ok (by decide) ?_
      have d0 : ρ (.tmp 9) = (Value.pointer (some { block := b, off := 0 })) := hd 0 _ rfl rfl
      exact step_val (v := (Value.pointer (some { block := b, off := 2 }))) (w' := wz) (by simp [go_sem, execOp, d0]) ⟨Kp.refl _ _, hJ.nop 3 (by decide) (by decide), rfl⟩) ?_
    refine .cons (fun f ρ wz hf hfe hρ hJ hb hd => by
      refine StepU.ok (by decide) ?_
      have d0 : ρ (.tmp 10) = (Value.pointer (some { block := b, off := 2 })) := hd 0 _ rfl rfl
      have x0 := unhide C1 _ (hJ.k0 (hf 10 (.inr (by decide +kernel))))
      exact step_val (v := (vw)) (w' := wz) (by simp [go_sem, execOp, d0, x0]) ⟨Kp.refl _ _, hJ.nop 4 (by decide) (by decide), rfl⟩) ?_
    refine .cons (fun f ρ wz hf hfe hρ hJ hb hd => by
      refine StepU.ok (by decide) ?_
      have d0 : ρ (.tmp 3) = (Value.pointer (some { block := w.heap.size, off := 0 })) := hb (3, _) (List.mem_of_getElem? (i := 1) rfl)
      obtain ⟨x0, x1, x2, x3, x4, x5, x6, x7, x8, x9, x10⟩ := unhide C2 _ hJ.kz
      exact step_val (v := (.agg #[.int .i64 o.ds, .int .i64 o.dq, .slice ad nd cd, .int .i64 o.kind, .int .i64 o.it, .int .i64 o.is, .int .i64 o.rt, .int .i64 o.rs, .string o.text, .slice ag ng cg, .int .i64 o.site])) (w' := wz) (by simp [go_sem, execOp, d0, x0, x1, x2, x3, x4, x5, x6, x7, x8, x9, x10]) ⟨Kp.refl _ _, hJ.nop 5 (by decide) (by decide), rfl⟩) ?_
    refine .cons (fun f ρ wz hf hfe hρ hJ hb hd => by
      refine StepU.ok (by decide) ?_
      have d0 : ρ (.tmp 12) = .agg #[.int .i64 o.ds, .int .i64 o.dq, .slice ad nd cd, .int .i64 o.kind, .int .i64 o.it, .int .i64 o.is, .int .i64 o.rt, .int .i64 o.rs, .string o.text, .slice ag ng cg, .int .i64 o.site] := hd 0 _ rfl rfl
      have al := ballc (Below.refl wz.heap.size wz) (.cells #[.int .i64 o.ds, .int .i64 o.dq, .slice ad nd cd, .int .i64 o.kind, .int .i64 o.it, .int .i64 o.is, .int .i64 o.rt, .int .i64 o.rs, .string o.text, .slice ag ng cg, .int .i64 o.site] 42)
      exact step_val (v := .slice (some ⟨wz.heap.size, 0, none⟩) 1 1) (w' := wz.alloc (.cells #[.int .i64 o.ds, .int .i64 o.dq, .slice ad nd cd, .int .i64 o.kind, .int .i64 o.it, .int .i64 o.is, .int .i64 o.rt, .int .i64 o.rs, .string o.text, .slice ag ng cg, .int .i64 o.site] 42)) (by simp [go_sem, execOp, d0]) ⟨Kp.of_below al, (hJ.below al).nop 6 (by decide) (by decide), wz.heap.size, rfl, hJ.kz.size, Bx.new _ _ _⟩) ?_
    refine .cons (fun f ρ wz hf hfe hρ hJ hb hd => by
      refine StepU.ok (by decide) ?_
      have d0 : ρ (.tmp 11) = vw := hd 0 _ rfl rfl
      obtain ⟨nb, d1, hnb, hbx⟩ : AqV6 W1 (o, Value.slice ad nd cd, Value.slice ag ng cg) wz (ρ (.tmp 13)) := hd 1 _ rfl rfl
      have h10 := hf 10 (.inr (by decide +kernel))
      have hbz := hJ.bz (hf 7 (.inl rfl)) h10
      obtain ⟨v', w', hr, hown, hgr, hat⟩ := append_op wz 47 0 vw ws (o, Value.slice ad nd cd, Value.slice ag ng cg) nb (owns_kp (N := fun _ => False) (unhide Hrr) (Kp.of_below hbz) (fun _ _ x => x)) hbx (unhide Hone) (Nat.zero_le _) (by omega)
      have kk := Kp.of_grown (N := fun k => vw.ownBlock = some k) hgr (fun k hk => hk)
      refine step_val (v := v') (w' := w') (run_appendO (.tmp 11) (.tmp 13) 47 rfl d0 d1 hr) ⟨kk.wk (fun i hi => .inl ⟨rfl, hi⟩), hJ.app kk h10, hown, ?_⟩
      rcases hat with hat | hat
      · exact .inl hat
      · exact .inr ⟨_, hat, hJ.kz.size⟩) ?_
    refine .cons (fun f ρ wz hf hfe hρ hJ hb hd => by
      refine StepU.ok (by decide) ?_
      have d0 : ρ (.tmp 7) = (Value.pointer (some { block := b, off := 0 })) := hd 0 _ rfl rfl
      exact step_val (v := (Value.pointer (some { block := b, off := 0 }))) (w' := wz) (by simp [go_sem, execOp, d0]) ⟨Kp.refl _ _, hJ.nop 8 (by decide) (by decide), rfl⟩) ?_
    refine .cons (fun f ρ wz hf hfe hρ hJ hb hd => by
      refine StepU.ok (by decide) ?_
      have d0 : ρ (.tmp 15) = (Value.pointer (some { block := b, off := 0 })) := hd 0 _ rfl rfl
      exact step_val (v := (Value.pointer (some { block := b, off := 2 }))) (w' := wz) (by simp [go_sem, execOp, d0]) ⟨Kp.refl _ _, hJ.nop 9 (by decide) (by decide), rfl⟩) ?_
    refine .cons (fun f ρ wz hf hfe hρ hJ hb hd => by
      have d0 : ρ (.tmp 16) = (Value.pointer (some { block := b, off := 2 })) := hd 0 _ rfl rfl
      obtain ⟨hown, hat⟩ : AwV7 W1 vw (ws ++ [(o, Value.slice ad nd cd, Value.slice ag ng cg)]) wz (ρ (.tmp 14)) := hd 1 _ rfl rfl
      obtain ⟨av', cv', hv⟩ := owns_form hown
      rw [hv] at hown hat
      have bx := (unhide Hbx1).kp (hJ.k0 (hf 10 (.inl rfl))) (unhide Hbv)
      have x0 := bx.cell 2 _ rfl
      have x1 := bx.frozen 2
      have x2 := bx.lt
      have k := Kp.set (N := fun i => i = b) wz ⟨b, 2, none⟩ (.slice av' (ws ++ [(o, Value.slice ad nd cd, Value.slice ag ng cg)]).length cv') rfl
      refine StepU.st _ (.tmp 16) (.tmp 14) rfl rfl (w' := wz.setCell ⟨b, 2, none⟩ (.slice av' (ws ++ [(o, Value.slice ad nd cd, Value.slice ag ng cg)]).length cv')) (by rw [d0, hv]; simp [go_sem, x0, x1, x2]) ⟨k.wk (fun i hi => .inr ⟨rfl, hi⟩), ⟨hJ.kz.trans k (fun i e => .inl (.inl e)), fun e => by simp at e, fun _ e => by simp at e, fun _ => ⟨_, by have := bx.set 2 (.slice av' (ws ++ [(o, Value.slice ad nd cd, Value.slice ag ng cg)]).length cv'); simpa using this, owns_kp hown k (fun i hi e => ?_), hat⟩⟩, trivial⟩
      rcases hat with hat | ⟨q, hat, hq⟩
      · exact unhide Hbv (by rw [← hat, hi, e])
      · rw [hat] at hi; simp at hi; have := unhide Hbl1; omega) ?_
    exact .nil _
  case fin =>
    intro a W5 hsz2 hds hb hJ hvv
    obtain ⟨f, hf, hJ⟩ := hJ
    obtain ⟨v, q1, q2, q3⟩ := hJ.fin (hf 10 (by decide))
    have hK := hJ.kz
    have e0 : a.eval (.tmp 0) = (Value.pointer (some { block := b, off := 0 })) := hb (0, _) (List.mem_of_getElem? (i := 0) rfl)
    obtain ⟨u, rfl⟩ : ∃ u : Nat → Value, a = ⟨#[u 0, u 1, u 2, u 3, u 4, u 5, u 6, u 7, u 8, u 9, u 10, u 11, u 12, u 13, u 14, u 15, u 16, u 17, u 18, u 19, u 20, u 21, u 22, u 23, u 24, u 25, u 26, u 27, u 28, u 29, u 30, u 31, u 32, u 33, u 34, u 35, u 36, u 37, u 38, u 39], []⟩ := ⟨fun k => a.eval (.tmp k), frame_fn 40 hsz2 hds⟩
    change u 0 = _ at e0
    rw [e0]
    have h := unhide Hh
    have hx := unhide Hx
    have z1 := (unhide Hb0).size
    have KW : Kp (fun k => k = b ∨ vw.ownBlock = some k) w W5 := (Kp.of_below (unhide Hb0)).trans hK (fun i e => .inl e)
    have hty : ∀ i, (i = b ∨ vw.ownBlock = some i) → ∃ t cur, Bx w i t cur ∧ t ≠ 28 ∧ t ≠ 72 := by
      intro i e
      rcases e with rfl | e
      · exact ⟨_, _, h.box, by decide, by decide⟩
      · obtain ⟨_, (⟨e1, _⟩ | ⟨g, cap, cur', e1, _, hg, _⟩)⟩ := h.rw
        · rw [e1] at e; cases e
        · rw [e1] at e
          simp [Value.ownBlock] at e
          subst e
          exact ⟨_, _, hg, by decide, by decide⟩
    have hxx : OE P w (o, Value.slice ad nd cd, Value.slice ag ng cg) := by rw [← hnd, ← hng]; exact hx
    have HQ : Hid (QM (fun i => P i ∨ w.heap.size ≤ i) W5 b hold vh v vr hv (ws ++ [(o, Value.slice ad nd cd, Value.slice ag ng cg)]) rd) := by
      refine ⟨q1, ?_, q2, ?_, ?_, ?_, .inl h.pb, fun k hk => .inl (h.ph k hk), ?_, fun k hk => .inl (h.pr k hk), ?_, h.hl, ?_⟩
      · refine owns_kp h.rh KW (fun i hi e => ?_)
        rcases e with rfl | e
        · exact own_ne_box h.rh h.box (by decide) hi
        · exact own_ne_own h.rh h.rw (by decide) i hi e
      · refine h.rr.kp KW (fun i hi e => ?_)
        rcases e with rfl | e
        · obtain ⟨cur, hc⟩ := h.rr.kind _ hi
          exact Bx.apart hc h.box (by decide) rfl
        · exact h.ap _ e hi
      · intro e he
        rcases List.mem_append.1 he with he | he
        · exact ((h.we e he).kt KW hty).mono (fun i hi => .inl hi)
        · simp only [List.mem_singleton] at he
          subst he
          exact (hxx.kt KW hty).mono (fun i hi => .inl hi)
      · exact fun e he => ((h.re e he).kt KW hty).mono (fun i hi => .inl hi)
      · intro k hk
        rcases q3 with q3 | ⟨k', q3, hk'⟩
        · exact .inl (h.pw k (by rw [← q3]; exact hk))
        · rw [q3] at hk
          simp at hk
          exact .inr (by omega)
      · intro k hk hk2
        rcases q3 with q3 | ⟨k', q3, hk'⟩
        · exact h.ap k (by rw [← q3]; exact hk) hk2
        · rw [q3] at hk
          simp at hk
          have := h.rr.lt k hk2
          omega
      · have hap := unhide Hap
        simp only [hnd, hng] at hap
        refine hap.perm ?_
        rw [List.append_assoc]
        exact List.perm_middle.symm
    have HKP : Hid (Kp P w W5) := hide (KW.wk (fun i e => e.elim (fun e => by rw [e]; exact h.pb) (fun e => h.pw i e)))
    have HV : Hid (∀ i, v.ownBlock = some i → P i ∨ w.heap.size ≤ i) := hide (unhide HQ).pw
    have Hpb : Hid (P b) := hide h.pb
    clear hJ hb hvv hf hds hsz2 C1 C2 J1 h hx hxx hty KW q1 q2 q3 hK e0 Hrr Hone Hbx1
    obtain ⟨LL, hLL⟩ : ∃ LL, ws ++ [(o, Value.slice ad nd cd, Value.slice ag ng cg)] = LL := ⟨_, rfl⟩
    have hlen : LL.length = ws.length + 1 := by rw [← hLL]; simp
    rw [hLL] at HQ
    obtain ⟨m, hm⟩ : ∃ m, ws.length = m := ⟨_, rfl⟩
    obtain ⟨FI, hFI⟩ : ∃ FI, farI (LL.map Prod.fst) = FI := ⟨_, rfl⟩
    have HA : Hid (∀ W, (∃ vw', QM (fun i => P i ∨ w.heap.size ≤ i) W b hold vh vw' vr hv (if (m : Int) < hold then LL else cutI LL FI) rd) → Kp P w W → AwtA P w b hold vh vr hv ws rd (o, Value.slice ad nd cd, Value.slice ag ng cg) (.returned (.int .i64 (if (m : Int) < hold then 2 else if FI = m then 4 else 2))) W) := hide (fun W q k => by
      unfold AwtA awR awW
      simp only [List.length_map]
      rw [hLL, show List.map Prod.fst ws ++ [o] = LL.map Prod.fst by rw [← hLL]; simp, hFI, hm]
      exact ⟨rfl, q, k⟩)
    rw [hm] at hlen hl
    have hQ := unhide HQ
    have hne : LL.map Prod.fst ≠ [] := fun e => by
      have := congrArg List.length e
      rw [List.length_map, hlen] at this
      simp at this
    have hFl : FI < LL.length := by have := farI_lt _ hne; rw [hFI, List.length_map] at this; exact this
    have HG := hide (greatest_in v W5 hQ.row hQ.rdw (by omega) (by omega))
    rw [hFI] at HG
    have HC := hide (fun (W : World) (k : Below W5.heap.size W5 W) => cut_in (hQ.below k) FI hFl (by omega))
    obtain ⟨av, cv, hve⟩ := owns_form hQ.rw
    rw [hlen] at hve hFl
    subst hve
    have c2 : W5.cell? ⟨b, 2, none⟩ = some (.slice av (m + 1) cv) := hQ.c2
    have c0 : W5.cell? ⟨b, 0, none⟩ = some (.int .i64 hold) := hQ.c0
    have hwr : IntKind.i64.wrap (((m : Nat) : Int) + 1 - 1) = (m : Int) := by simp only [IntKind.wrap_i64]; omega
    have hwr2 : IntKind.i64.wrap (m : Int) = (m : Int) := by simp only [IntKind.wrap_i64]; omega
    clear hQ hLL hlen hm hX0 hFI hne
    by_cases hlt : (m : Int) < hold
    · have HA2 := unhide HA
      simp only [if_pos hlt] at HA2
      replace HA2 := hide HA2
      clear HA HG HC
      go_wp2
      go_ret
      exact unhide HA2 _ ⟨_, unhide HQ⟩ (unhide HKP)
    · have HA2 := unhide HA
      simp only [if_neg hlt] at HA2
      replace HA2 := hide HA2
      clear HA
      go_wp2_with fail
      refine (unhide HG).mono ?_
      rintro e W6 ⟨rfl, b6⟩
      have HC6 := hide (unhide HC W6 b6)
      have B6 := hide b6
      clear HC HG b6
      go_wp2_with fail
      refine (unhide HC6).mono ?_
      rintro e W7 ⟨rfl, q7, k7⟩
      have Q7 := hide q7
      have K7 : Hid (Kp P w W7) := hide (((unhide HKP).trans (Kp.of_below (N := fun _ => False) (unhide B6)) (fun i e => .inl e.elim)).trans k7 (fun i e => e.elim (fun e => .inl (by rw [e]; exact unhide Hpb)) (fun e => unhide HV i e)))
      clear HC6 q7 k7
      by_cases hfm : FI = m
      · subst hfm
        rw [if_pos rfl] at HA2
        go_wp2
        go_ret
        exact unhide HA2 _ (unhide Q7) (unhide K7)
      · rw [if_neg hfm] at HA2
        have hfm' : ((FI : Int) == (m : Int)) = false := by
          have : ¬ (FI : Int) = (m : Int) := by omega
          simpa using this
        go_wp2
        go_ret
        exact unhide HA2 _ (unhide Q7) (unhide K7)

end Go.Proofs.YtkkolefionbbcaaGreat
