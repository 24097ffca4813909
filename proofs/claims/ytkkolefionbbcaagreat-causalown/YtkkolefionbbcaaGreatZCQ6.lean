/-
  Two Dots: which is the lower one.
-/
import Derived.Test.YtkkolefionbbcaaGreatZCQ5
import Derived.Test.YtkkolefionbbcaaGreatZXKR
set_option linter.unusedSimpArgs false
set_option linter.unusedVariables false
namespace Go.Proofs.YtkkolefionbbcaaGreat
open Go.RowKit Go.Lib Go.Sort

set_option maxRecDepth 100000 in
set_option maxHeartbeats 4000000 in
theorem byDot_in (a b c d : Int) (w : World) :
    Calls Tryz.prog 48 #[.agg #[.int .i64 a, .int .i64 b], .agg #[.int .i64 c, .int .i64 d]] w fun e W => e = .returned (.int .i64 (cmpI (a, b) (c, d))) ∧ ∃ q os, W = grow (w.drewN q) os := by
  rw [cmp_or a b c d]
  have HC := hide (fun (x y : Int) (W : World) => AnyG.cmp_Compare_int shCmp x y W)
  change Hid (∀ (x y : Int) (W : World), Calls Tryz.prog 79 _ _ _) at HC
  have HC1 := hide (unhide HC a c)
  have HC2 := hide (unhide HC b d)
  obtain ⟨X, hX⟩ : ∃ X, Lib.compareInt a c = X := ⟨_, rfl⟩
  obtain ⟨Y, hY⟩ : ∃ Y, Lib.compareInt b d = Y := ⟨_, rfl⟩
  rw [hX] at HC1 ⊢
  rw [hY] at HC2 ⊢
  clear hX hY HC
  obtain ⟨R, hR⟩ : ∃ R, (if X = 0 then Y else X) = R := ⟨_, rfl⟩
  have HO := hide (fun (W : World) (g : Nat) h0 h1 => cmpOr_in X Y W g h0 h1)
  rw [hR] at HO ⊢
  clear hR
  go_enter Tryz.func48, Tryz.ntmps48
  go_wp2
  refine wp_region_any (by kernel_rfl) ?_
  change wpAny _ _ _ _ _ _ _ (World.drew _)
  have hb0 := (Bx.new w 28 #[.int .i64 a, .int .i64 b]).below (ballc (Below.refl _ _) (.cells #[.int .i64 c, .int .i64 d] 28))
  have hb1 := Bx.new (w.alloc (.cells #[.int .i64 a, .int .i64 b] 28)) 28 #[.int .i64 c, .int .i64 d]
  rw [show (w.alloc (.cells #[.int .i64 a, .int .i64 b] 28)).heap.size = w.heap.size + 1 by simp] at hb1
  have hw2 : ∃ q os, (w.alloc (.cells #[.int .i64 a, .int .i64 b] 28)).alloc (.cells #[.int .i64 c, .int .i64 d] 28) = grow (w.drewN q) os := ⟨0, _, by rw [alloc_eq_grow, alloc_eq_grow, grow_grow]; rfl⟩
  generalize (w.alloc (.cells #[.int .i64 a, .int .i64 b] 28)).alloc (.cells #[.int .i64 c, .int .i64 d] 28) = w2 at *
  have c0 := fun n os => cell_grown hb0.lt (hb0.cell 0 _ rfl) n os
  have c1 := fun n os => cell_grown hb0.lt (hb0.cell 1 _ rfl) n os
  have c2 := fun n os => cell_grown hb1.lt (hb1.cell 0 _ rfl) n os
  have c3 := fun n os => cell_grown hb1.lt (hb1.cell 1 _ rfl) n os
  have HW := hide hw2
  clear hw2 hb0 hb1
  refine region_inv 17 (fun j => if j = 12 then 4 else 5 + j) [(2, .pointer (some ⟨w.heap.size, 0, none⟩)), (3, .pointer (some ⟨w.heap.size + 1, 0, none⟩))]
    (fun W => ∃ q os, W = grow (w2.drewN q) os)
    (valsOf [isV (.pointer (some ⟨w.heap.size, 0, none⟩)), isV (.int .i64 a), isV (.pointer (some ⟨w.heap.size + 1, 0, none⟩)), isV (.int .i64 c), isV (.int .i64 X), isV (.pointer (some ⟨w.heap.size, 1, none⟩)), isV (.int .i64 b), isV (.pointer (some ⟨w.heap.size + 1, 1, none⟩)), isV (.int .i64 d), isV (.int .i64 Y), (fun W v => ∃ g, v = .slice (some ⟨g, 0, none⟩) 2 2 ∧ W.cell? ⟨g, 0, none⟩ = some (.int .i64 X) ∧ W.cell? ⟨g, 1, none⟩ = some (.int .i64 Y)), isV (.int .i64 R), isV (.int .i64 R)])
    GrW ?fit (fun w1 w2 h hG => grW_of h hG) (valsOf_stable ?stable) [] ?gs ?gv ?steps ?fin _ _ ?sz rfl ?base ?start
  case fit => kernel_rfl
  case sz => rfl
  case gs => kernel_rfl
  case gv => intro p hp w v hv; cases hp
  case base => intro p hp; simp at hp; rcases hp with rfl | rfl <;> rfl
  case stable =>
    refine Stables.all ?_
    repeat (refine Stables.same ?_)
    refine Stables.other (fun w1 w2 v _ h hG => ?_) ?_
    · obtain ⟨g, e, k0, k1⟩ := h
      exact ⟨g, e, hG.cell k0, hG.cell k1⟩
    exact .same (.same .nil)
  case start => exact ⟨1, #[], by rw [grow_empty]; rfl⟩
  case steps =>
    refine .cons (fun ρ w1 hρ hJ hb hd => step_val (v := .pointer (some ⟨w.heap.size, 0, none⟩)) (w' := w1) (by have d0 : ρ (.tmp 2) = _ := hb (2, _) (.head _); simp [go_sem, execOp, d0]) ⟨grW_refl _, rfl⟩) ?_
    refine .cons (fun ρ w1 hρ hJ hb hd => by
      obtain ⟨q, os, rfl⟩ := hJ
      have d0 : ρ (.tmp 5) = .pointer (some ⟨w.heap.size, 0, none⟩) := hd 0 _ rfl rfl
      exact step_val (v := .int .i64 a) (w' := _) (by simp [go_sem, execOp, d0, c0]) ⟨grW_refl _, rfl⟩) ?_
    refine .cons (fun ρ w1 hρ hJ hb hd => step_val (v := .pointer (some ⟨w.heap.size + 1, 0, none⟩)) (w' := w1) (by have d0 : ρ (.tmp 3) = _ := hb (3, _) (.tail _ (.head _)); simp [go_sem, execOp, d0]) ⟨grW_refl _, rfl⟩) ?_
    refine .cons (fun ρ w1 hρ hJ hb hd => by
      obtain ⟨q, os, rfl⟩ := hJ
      have d0 : ρ (.tmp 7) = .pointer (some ⟨w.heap.size + 1, 0, none⟩) := hd 0 _ rfl rfl
      exact step_val (v := .int .i64 c) (w' := _) (by simp [go_sem, execOp, d0, c2]) ⟨grW_refl _, rfl⟩) ?_
    refine .cons (fun ρ w1 hρ hJ hb hd => by
      have d0 : ρ (.tmp 6) = .int .i64 a := hd 0 _ rfl rfl
      have d1 : ρ (.tmp 8) = .int .i64 c := hd 1 _ rfl rfl
      refine step_func 79 _ _ #[.int .i64 a, .int .i64 c] hρ rfl (enters_of Tryz.func79 (by kernel_rfl) rfl) (by simp [d0, d1]) ?_
      refine (unhide HC1 _).mono ?_
      rintro e w2 ⟨rfl, rfl⟩
      exact ⟨_, rfl, grW_refl _, rfl⟩) ?_
    refine .cons (fun ρ w1 hρ hJ hb hd => step_val (v := .pointer (some ⟨w.heap.size, 1, none⟩)) (w' := w1) (by have d0 : ρ (.tmp 2) = _ := hb (2, _) (.head _); simp [go_sem, execOp, d0]) ⟨grW_refl _, rfl⟩) ?_
    refine .cons (fun ρ w1 hρ hJ hb hd => by
      obtain ⟨q, os, rfl⟩ := hJ
      have d0 : ρ (.tmp 10) = .pointer (some ⟨w.heap.size, 1, none⟩) := hd 0 _ rfl rfl
      exact step_val (v := .int .i64 b) (w' := _) (by simp [go_sem, execOp, d0, c1]) ⟨grW_refl _, rfl⟩) ?_
    refine .cons (fun ρ w1 hρ hJ hb hd => step_val (v := .pointer (some ⟨w.heap.size + 1, 1, none⟩)) (w' := w1) (by have d0 : ρ (.tmp 3) = _ := hb (3, _) (.tail _ (.head _)); simp [go_sem, execOp, d0]) ⟨grW_refl _, rfl⟩) ?_
    refine .cons (fun ρ w1 hρ hJ hb hd => by
      obtain ⟨q, os, rfl⟩ := hJ
      have d0 : ρ (.tmp 12) = .pointer (some ⟨w.heap.size + 1, 1, none⟩) := hd 0 _ rfl rfl
      exact step_val (v := .int .i64 d) (w' := _) (by simp [go_sem, execOp, d0, c3]) ⟨grW_refl _, rfl⟩) ?_
    refine .cons (fun ρ w1 hρ hJ hb hd => by
      have d0 : ρ (.tmp 11) = .int .i64 b := hd 0 _ rfl rfl
      have d1 : ρ (.tmp 13) = .int .i64 d := hd 1 _ rfl rfl
      refine step_func 79 _ _ #[.int .i64 b, .int .i64 d] hρ rfl (enters_of Tryz.func79 (by kernel_rfl) rfl) (by simp [d0, d1]) ?_
      refine (unhide HC2 _).mono ?_
      rintro e w2 ⟨rfl, rfl⟩
      exact ⟨_, rfl, grW_refl _, rfl⟩) ?_
    refine .cons (fun ρ w1 hρ hJ hb hd => by
      have d0 : ρ (.tmp 9) = .int .i64 X := hd 0 _ rfl rfl
      have d1 : ρ (.tmp 14) = .int .i64 Y := hd 1 _ rfl rfl
      refine step_val (v := .slice (some ⟨w1.heap.size, 0, none⟩) 2 2) (w' := w1.alloc (.cells #[.int .i64 X, .int .i64 Y] 3)) (by simp [go_sem, execOp, d0, d1]) ⟨grW_alloc _ _, w1.heap.size, rfl, (Bx.new w1 _ _).cell 0 _ rfl, (Bx.new w1 _ _).cell 1 _ rfl⟩) ?_
    refine .cons (fun ρ w1 hρ hJ hb hd => by
      obtain ⟨g, d0, k0, k1⟩ : ∃ g, ρ (.tmp 15) = .slice (some ⟨g, 0, none⟩) 2 2 ∧ w1.cell? ⟨g, 0, none⟩ = some (.int .i64 X) ∧ w1.cell? ⟨g, 1, none⟩ = some (.int .i64 Y) := hd 0 _ rfl rfl
      refine step_func 78 _ _ #[.slice (some ⟨g, 0, none⟩) 2 2] hρ rfl (enters_of Tryz.func78 (by kernel_rfl) rfl) (by simp [d0]) ?_
      refine (unhide HO _ _ k0 k1).mono ?_
      rintro e w2 ⟨rfl, rfl⟩
      exact ⟨_, rfl, grW_refl _, rfl⟩) ?_
    refine .cons (fun ρ w1 hρ hJ hb hd => step_assign (.tmp 16) rfl ⟨grW_refl _, hd 0 _ rfl rfl⟩) (.nil _)
  case fin =>
    intro a W h1 h2 hJ hv
    have h10 : a.eval (.tmp 4) = .int .i64 R := hv 12 (by decide)
    clear hv
    go_wp2
    refine bodyPost_ret (v := .int .i64 R) ?_ h2 ⟨rfl, ?_⟩
    · have h4s := eval_some (a := a) (t := 4) (by omega)
      rw [h10] at h4s
      simp [results, Tryz.f48, h4s]
    · obtain ⟨q, os, e⟩ := unhide HW
      obtain ⟨q', os', rfl⟩ := hJ
      rw [e]
      exact ⟨q + q', os ++ os', by show grow (grow ((w.drewN q).drewN q') os) os' = _; rw [grow_grow, World.drewN_drewN]⟩

end Go.Proofs.YtkkolefionbbcaaGreat
