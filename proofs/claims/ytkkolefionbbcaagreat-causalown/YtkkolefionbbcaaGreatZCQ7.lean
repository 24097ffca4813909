/-
  Two operations: which is the farther one.
-/
import Derived.Test.YtkkolefionbbcaaGreatZCQ6
set_option linter.unusedSimpArgs false
set_option linter.unusedVariables false
namespace Go.Proofs.YtkkolefionbbcaaGreat
open Go.RowKit Go.Lib Go.Sort

/-- as byDistance says it -/
def dstO (a b : Opn) : Int := if Lib.compareInt (sum (sy a.deps)) (sum (sy b.deps)) = 0 then cmpI (dotO a) (dotO b) else Lib.compareInt (sum (sy a.deps)) (sum (sy b.deps))
theorem dstO_far (a b : Opn) : decide (0 < dstO a b) = farO a b := by
  rw [Bool.eq_iff_iff, farO_iff]
  unfold dstO cmpI dotO Lib.compareInt
  simp only [Prod.mk.injEq]
  generalize sum (sy a.deps) = s
  generalize sum (sy b.deps) = t
  constructor
  · intro h
    have h := of_decide_eq_true h
    revert h
    repeat' split
    all_goals intro h
    all_goals omega
  · intro h
    apply decide_eq_true
    repeat' split
    all_goals omega
set_option maxRecDepth 100000 in
set_option maxHeartbeats 4000000 in
theorem byDistance_in (x y : Opn) (aa ab ag ah : Option Addr) (ca cb ng cg nh ch : Nat) (w : World) (ha : RI w (.slice aa x.deps.length ca) x.deps) (hb : RI w (.slice ab y.deps.length cb) y.deps) (la : x.deps.length ≤ 1000000) (lb : y.deps.length ≤ 1000000) :
    Calls Tryz.prog 75 #[.agg #[.int .i64 x.ds, .int .i64 x.dq, .slice aa x.deps.length ca, .int .i64 x.kind, .int .i64 x.it, .int .i64 x.is, .int .i64 x.rt, .int .i64 x.rs, .string x.text, .slice ag ng cg, .int .i64 x.site], .agg #[.int .i64 y.ds, .int .i64 y.dq, .slice ab y.deps.length cb, .int .i64 y.kind, .int .i64 y.it, .int .i64 y.is, .int .i64 y.rt, .int .i64 y.rs, .string y.text, .slice ah nh ch, .int .i64 y.site]] w fun e W => e = .returned (.int .i64 (dstO x y)) ∧ Below w.heap.size w W := by
  obtain ⟨R, hR⟩ : ∃ R, dstO x y = R := ⟨_, rfl⟩
  rw [hR]
  unfold dstO at hR
  obtain ⟨w2, hw2⟩ : ∃ w2, (w.alloc (.cells #[.int .i64 x.ds, .int .i64 x.dq, .slice aa x.deps.length ca, .int .i64 x.kind, .int .i64 x.it, .int .i64 x.is, .int .i64 x.rt, .int .i64 x.rs, .string x.text, .slice ag ng cg, .int .i64 x.site] 42)).alloc (.cells #[.int .i64 y.ds, .int .i64 y.dq, .slice ab y.deps.length cb, .int .i64 y.kind, .int .i64 y.it, .int .i64 y.is, .int .i64 y.rt, .int .i64 y.rs, .string y.text, .slice ah nh ch, .int .i64 y.site] 42) = w2 := ⟨_, rfl⟩
  have bb0 : Bx w2 w.heap.size 42 #[.int .i64 x.ds, .int .i64 x.dq, .slice aa x.deps.length ca, .int .i64 x.kind, .int .i64 x.it, .int .i64 x.is, .int .i64 x.rt, .int .i64 x.rs, .string x.text, .slice ag ng cg, .int .i64 x.site] := by rw [← hw2]; exact (Bx.new w 42 _).below (ballc (Below.refl _ _) _)
  have bb1 : Bx w2 (w.heap.size + 1) 42 #[.int .i64 y.ds, .int .i64 y.dq, .slice ab y.deps.length cb, .int .i64 y.kind, .int .i64 y.it, .int .i64 y.is, .int .i64 y.rt, .int .i64 y.rs, .string y.text, .slice ah nh ch, .int .i64 y.site] := by
    have q := Bx.new (w.alloc (.cells #[.int .i64 x.ds, .int .i64 x.dq, .slice aa x.deps.length ca, .int .i64 x.kind, .int .i64 x.it, .int .i64 x.is, .int .i64 x.rt, .int .i64 x.rs, .string x.text, .slice ag ng cg, .int .i64 x.site] 42)) 42 #[.int .i64 y.ds, .int .i64 y.dq, .slice ab y.deps.length cb, .int .i64 y.kind, .int .i64 y.it, .int .i64 y.is, .int .i64 y.rt, .int .i64 y.rs, .string y.text, .slice ah nh ch, .int .i64 y.site]
    rw [show (w.alloc (.cells #[.int .i64 x.ds, .int .i64 x.dq, .slice aa x.deps.length ca, .int .i64 x.kind, .int .i64 x.it, .int .i64 x.is, .int .i64 x.rt, .int .i64 x.rs, .string x.text, .slice ag ng cg, .int .i64 x.site] 42)).heap.size = w.heap.size + 1 by simp, hw2] at q
    exact q
  have bw : Below w.heap.size w w2 := by rw [← hw2]; exact ballc (ballc (Below.refl _ _) _) _
  have HA := hide (fun (W : World) (h : Below w2.heap.size w2 W) => Sum_in _ x.deps W (ha.below (bnext bw h)) (by omega))
  have HB := hide (fun (W : World) (h : Below w2.heap.size w2 W) => Sum_in _ y.deps W (hb.below (bnext bw h)) (by omega))
  have HD : Hid (∀ W : World, Calls Tryz.prog 48 #[.agg #[.int .i64 x.ds, .int .i64 x.dq], .agg #[.int .i64 y.ds, .int .i64 y.dq]] W fun e W' => e = .returned (.int .i64 (cmpI (dotO x) (dotO y))) ∧ Below W.heap.size W W') := hide (fun W => (byDot_in x.ds x.dq y.ds y.dq W).mono (fun e W' h => ⟨h.1, GrW.below h.2⟩))
  obtain ⟨SA, hSA⟩ : ∃ S, sum (sy x.deps) = S := ⟨_, rfl⟩
  obtain ⟨SB, hSB⟩ : ∃ S, sum (sy y.deps) = S := ⟨_, rfl⟩
  rw [hSA] at HA hR
  rw [hSB] at HB hR
  obtain ⟨Y, hY⟩ : ∃ Y, cmpI (dotO x) (dotO y) = Y := ⟨_, rfl⟩
  rw [hY] at HD hR
  have HC := hide (fun (x y : Int) (W : World) => AnyG.cmp_Compare_int shCmp x y W)
  change Hid (∀ (x y : Int) (W : World), Calls Tryz.prog 79 _ _ _) at HC
  have HC1 := hide (unhide HC SA SB)
  obtain ⟨X, hX⟩ : ∃ X, Lib.compareInt SA SB = X := ⟨_, rfl⟩
  rw [hX] at HC1 hR
  have HO := hide (fun (W : World) (g : Nat) h0 h1 => cmpOr_in X Y W g h0 h1)
  rw [hR] at HO
  have c0 : ∀ W, Below w2.heap.size w2 W → W.cell? ⟨w.heap.size, 0, none⟩ = some (.int .i64 x.ds) := fun W h => cell_below (bb0.cell 0 _ rfl) h
  have c1 : ∀ W, Below w2.heap.size w2 W → W.cell? ⟨w.heap.size, 1, none⟩ = some (.int .i64 x.dq) := fun W h => cell_below (bb0.cell 1 _ rfl) h
  have c2 : ∀ W, Below w2.heap.size w2 W → W.cell? ⟨w.heap.size, 2, none⟩ = some (.slice aa x.deps.length ca) := fun W h => cell_below (bb0.cell 2 _ rfl) h
  have e0 : ∀ W, Below w2.heap.size w2 W → W.cell? ⟨w.heap.size + 1, 0, none⟩ = some (.int .i64 y.ds) := fun W h => cell_below (bb1.cell 0 _ rfl) h
  have e1 : ∀ W, Below w2.heap.size w2 W → W.cell? ⟨w.heap.size + 1, 1, none⟩ = some (.int .i64 y.dq) := fun W h => cell_below (bb1.cell 1 _ rfl) h
  have e2 : ∀ W, Below w2.heap.size w2 W → W.cell? ⟨w.heap.size + 1, 2, none⟩ = some (.slice ab y.deps.length cb) := fun W h => cell_below (bb1.cell 2 _ rfl) h
  have HW := hide bw
  clear hR hX hY hSA hSB HC ha hb bb0 bb1 bw la lb
  go_enter Tryz.func75, Tryz.ntmps75
  go_wp2
  refine wp_region_any (by kernel_rfl) ?_
  change wpAny _ _ _ _ _ _ _ (World.drew _)
  refine region_inv 19 (fun j => if j = 14 then 4 else 5 + j) [(2, .pointer (some ⟨w.heap.size, 0, none⟩)), (3, .pointer (some ⟨w.heap.size + 1, 0, none⟩))]
      (fun W => Below w2.heap.size w2 W)
      (valsOf [isV (.pointer (some ⟨w.heap.size, 2, none⟩)), isV (.slice aa x.deps.length ca), isV (.int .i64 SA), isV (.pointer (some ⟨w.heap.size + 1, 2, none⟩)), isV (.slice ab y.deps.length cb), isV (.int .i64 SB), isV (.int .i64 X), isV (.pointer (some ⟨w.heap.size, 0, none⟩)), isV (.agg #[.int .i64 x.ds, .int .i64 x.dq]), isV (.pointer (some ⟨w.heap.size + 1, 0, none⟩)), isV (.agg #[.int .i64 y.ds, .int .i64 y.dq]), isV (.int .i64 Y), (fun W v => ∃ g, v = .slice (some ⟨g, 0, none⟩) 2 2 ∧ W.cell? ⟨g, 0, none⟩ = some (.int .i64 X) ∧ W.cell? ⟨g, 1, none⟩ = some (.int .i64 Y)), isV (.int .i64 R), isV (.int .i64 R)])
      (fun W W' => Below W.heap.size W W') ?fit (fun w1 w2 h hG => bnext h hG) (valsOf_stable ?stable) [] ?gs ?gv ?steps ?fin _ _ ?sz rfl ?base ?start
  case fit => kernel_rfl
  case sz => rfl
  case gs => kernel_rfl
  case gv => intro p hp w v hv; cases hp
  case base => intro p hp; simp at hp; rcases hp with rfl | rfl <;> rfl
  case stable =>
      refine Stables.all ?_
      repeat (refine Stables.same ?_)
      refine Stables.other (fun w1 w2 v _ h hG => ?_) ?_
      · obtain ⟨g, e, k0, k1⟩ := h
        exact ⟨g, e, cell_below k0 hG, cell_below k1 hG⟩
      exact .same (.same .nil)
  case start => exact ⟨rfl, rfl, rfl, Nat.le_refl _, fun _ _ => rfl⟩
  case steps =>
      refine .cons (fun ρ w1 hρ hJ hb hd => step_val (v := .pointer (some ⟨w.heap.size, 2, none⟩)) (w' := w1) (by have d0 : ρ (.tmp 2) = _ := hb (2, _) (.head _); simp [go_sem, execOp, d0]) ⟨Below.refl _ _, rfl⟩) ?_
      refine .cons (fun ρ w1 hρ hJ hb hd => by
        have d0 : ρ (.tmp 5) = .pointer (some ⟨w.heap.size, 2, none⟩) := hd 0 _ rfl rfl
        have e0 := c2 w1 hJ
        exact step_val (v := .slice aa x.deps.length ca) (w' := w1) (by simp [go_sem, execOp, d0, e0]) ⟨Below.refl _ _, rfl⟩) ?_
      refine .cons (fun ρ w1 hρ hJ hb hd => by
        have d0 : ρ (.tmp 6) = .slice aa x.deps.length ca := hd 0 _ rfl rfl
        refine step_func 91 _ _ #[.slice aa x.deps.length ca] hρ rfl (enters_of Tryz.func91 (by kernel_rfl) rfl) (by simp [d0]) ?_
        refine (unhide HA _ hJ).mono ?_
        rintro e w2 ⟨rfl, hb2⟩
        exact ⟨_, rfl, hb2, rfl⟩) ?_
      refine .cons (fun ρ w1 hρ hJ hb hd => step_val (v := .pointer (some ⟨w.heap.size + 1, 2, none⟩)) (w' := w1) (by have d0 : ρ (.tmp 3) = _ := hb (3, _) (.tail _ (.head _)); simp [go_sem, execOp, d0]) ⟨Below.refl _ _, rfl⟩) ?_
      refine .cons (fun ρ w1 hρ hJ hb hd => by
        have d0 : ρ (.tmp 8) = .pointer (some ⟨w.heap.size + 1, 2, none⟩) := hd 0 _ rfl rfl
        have e0 := e2 w1 hJ
        exact step_val (v := .slice ab y.deps.length cb) (w' := w1) (by simp [go_sem, execOp, d0, e0]) ⟨Below.refl _ _, rfl⟩) ?_
      refine .cons (fun ρ w1 hρ hJ hb hd => by
        have d0 : ρ (.tmp 9) = .slice ab y.deps.length cb := hd 0 _ rfl rfl
        refine step_func 91 _ _ #[.slice ab y.deps.length cb] hρ rfl (enters_of Tryz.func91 (by kernel_rfl) rfl) (by simp [d0]) ?_
        refine (unhide HB _ hJ).mono ?_
        rintro e w2 ⟨rfl, hb2⟩
        exact ⟨_, rfl, hb2, rfl⟩) ?_
      refine .cons (fun ρ w1 hρ hJ hb hd => by
        have d0 : ρ (.tmp 7) = .int .i64 SA := hd 0 _ rfl rfl
        have d1 : ρ (.tmp 10) = .int .i64 SB := hd 1 _ rfl rfl
        refine step_func 79 _ _ #[.int .i64 SA, .int .i64 SB] hρ rfl (enters_of Tryz.func79 (by kernel_rfl) rfl) (by simp [d0, d1]) ?_
        refine (unhide HC1 _).mono ?_
        rintro e w2 ⟨rfl, rfl⟩
        exact ⟨_, rfl, Below.refl _ _, rfl⟩) ?_
      refine .cons (fun ρ w1 hρ hJ hb hd => step_val (v := .pointer (some ⟨w.heap.size, 0, none⟩)) (w' := w1) (by have d0 : ρ (.tmp 2) = _ := hb (2, _) (.head _); simp [go_sem, execOp, d0]) ⟨Below.refl _ _, rfl⟩) ?_
      refine .cons (fun ρ w1 hρ hJ hb hd => by
        have d0 : ρ (.tmp 12) = .pointer (some ⟨w.heap.size, 0, none⟩) := hd 0 _ rfl rfl
        have e0 := c0 w1 hJ
        have e1 := c1 w1 hJ
        exact step_val (v := .agg #[.int .i64 x.ds, .int .i64 x.dq]) (w' := w1) (by simp [go_sem, execOp, d0, e0, e1]) ⟨Below.refl _ _, rfl⟩) ?_
      refine .cons (fun ρ w1 hρ hJ hb hd => step_val (v := .pointer (some ⟨w.heap.size + 1, 0, none⟩)) (w' := w1) (by have d0 : ρ (.tmp 3) = _ := hb (3, _) (.tail _ (.head _)); simp [go_sem, execOp, d0]) ⟨Below.refl _ _, rfl⟩) ?_
      refine .cons (fun ρ w1 hρ hJ hb hd => by
        have d0 : ρ (.tmp 14) = .pointer (some ⟨w.heap.size + 1, 0, none⟩) := hd 0 _ rfl rfl
        have e0 := e0 w1 hJ
        have e1 := e1 w1 hJ
        exact step_val (v := .agg #[.int .i64 y.ds, .int .i64 y.dq]) (w' := w1) (by simp [go_sem, execOp, d0, e0, e1]) ⟨Below.refl _ _, rfl⟩) ?_
      refine .cons (fun ρ w1 hρ hJ hb hd => by
        have d0 : ρ (.tmp 13) = .agg #[.int .i64 x.ds, .int .i64 x.dq] := hd 0 _ rfl rfl
        have d1 : ρ (.tmp 15) = .agg #[.int .i64 y.ds, .int .i64 y.dq] := hd 1 _ rfl rfl
        refine step_func 48 _ _ #[.agg #[.int .i64 x.ds, .int .i64 x.dq], .agg #[.int .i64 y.ds, .int .i64 y.dq]] hρ rfl (enters_of Tryz.func48 (by kernel_rfl) rfl) (by simp [d0, d1]) ?_
        refine (unhide HD _).mono ?_
        rintro e w2 ⟨rfl, hb2⟩
        exact ⟨_, rfl, hb2, rfl⟩) ?_
      refine .cons (fun ρ w1 hρ hJ hb hd => by
        have d0 : ρ (.tmp 11) = .int .i64 X := hd 0 _ rfl rfl
        have d1 : ρ (.tmp 16) = .int .i64 Y := hd 1 _ rfl rfl
        refine step_val (v := .slice (some ⟨w1.heap.size, 0, none⟩) 2 2) (w' := w1.alloc (.cells #[.int .i64 X, .int .i64 Y] 3)) (by simp [go_sem, execOp, d0, d1]) ⟨ballc (Below.refl _ _) _, w1.heap.size, rfl, (Bx.new w1 _ _).cell 0 _ rfl, (Bx.new w1 _ _).cell 1 _ rfl⟩) ?_
      refine .cons (fun ρ w1 hρ hJ hb hd => by
        obtain ⟨g, d0, k0, k1⟩ : ∃ g, ρ (.tmp 17) = .slice (some ⟨g, 0, none⟩) 2 2 ∧ w1.cell? ⟨g, 0, none⟩ = some (.int .i64 X) ∧ w1.cell? ⟨g, 1, none⟩ = some (.int .i64 Y) := hd 0 _ rfl rfl
        refine step_func 78 _ _ #[.slice (some ⟨g, 0, none⟩) 2 2] hρ rfl (enters_of Tryz.func78 (by kernel_rfl) rfl) (by simp [d0]) ?_
        refine (unhide HO _ _ k0 k1).mono ?_
        rintro e w2 ⟨rfl, rfl⟩
        exact ⟨_, rfl, Below.refl _ _, rfl⟩) ?_
      refine .cons (fun ρ w1 hρ hJ hb hd => step_assign (.tmp 18) rfl ⟨Below.refl _ _, hd 0 _ rfl rfl⟩) (.nil _)
  case fin =>
      intro a W h1 h2 hJ hv
      have h10 : a.eval (.tmp 4) = .int .i64 R := hv 14 (by decide)
      clear hv
      go_wp2
      refine bodyPost_ret (v := .int .i64 R) ?_ h2 ⟨rfl, ?_⟩
      · have h4s := eval_some (a := a) (t := 4) (by omega)
        rw [h10] at h4s
        simp [results, Tryz.f75, h4s]
      · exact bnext (unhide HW) hJ

end Go.Proofs.YtkkolefionbbcaaGreat
