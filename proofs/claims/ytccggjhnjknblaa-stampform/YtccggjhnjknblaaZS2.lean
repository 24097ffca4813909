/-
  Compare.
-/
import Derived.Test.YtccggjhnjknblaaZS1
import Derived.Test.YtccggjhnjknblaaZShC
import Derived.Sort.Grow
import Derived.Test.YtccggjhnjknblaaZReg
import Derived.Shelf.SlSortCmp.QuietGrown
set_option linter.unusedSimpArgs false
set_option linter.unusedVariables false
namespace Go.Proofs.Ytccggjhnjknblaa
open Go.RowKit Go.Lib Go.Sort

set_option maxRecDepth 100000 in
theorem cmpOr_in (x y : Int) (w : World) (g : Nat) (h0 : w.cell? ⟨g, 0, none⟩ = some (.int .i64 x)) (h1 : w.cell? ⟨g, 1, none⟩ = some (.int .i64 y)) :
    Calls Try.prog 36 #[.slice (some ⟨g, 0, none⟩) 2 2] w fun e W => e = .returned (.int .i64 (if x = 0 then y else x)) ∧ W = w := by
  by_cases hx : x = 0
  · subst hx
    by_cases hy : y = 0
    · subst hy
      go_enter Try.func36, Try.ntmps36
      go_wp2
      refine wp_loop_rounds 3 ?_
      rw [rounds_succ]; go_wp2
      rw [rounds_succ]; go_wp2
      rw [rounds_succ]; go_wp2
      go_ret
      exact ⟨rfl, rfl⟩
    · have hy' : (y == 0) = false := by simpa using hy
      rw [if_pos rfl]
      go_enter Try.func36, Try.ntmps36
      go_wp2
      refine wp_loop_rounds 3 ?_
      rw [rounds_succ]; go_wp2
      rw [rounds_succ]; go_wp2
      go_ret
      exact ⟨rfl, rfl⟩
  · have hx' : (x == 0) = false := by simpa using hx
    rw [if_neg hx]
    go_enter Try.func36, Try.ntmps36
    go_wp2
    refine wp_loop_rounds 3 ?_
    rw [rounds_succ]; go_wp2
    go_ret
    exact ⟨rfl, rfl⟩

/-- a world that has gone on: draws, and new blocks -/
def GrW (w w' : World) : Prop := ∃ q os, w' = grow (w.drewN q) os
theorem grW_refl (w : World) : GrW w w := ⟨0, #[], by rw [grow_empty]; rfl⟩
theorem grW_alloc (w : World) (o : Obj) : GrW w (w.alloc o) := ⟨0, _, by rw [alloc_eq_grow]; rfl⟩
theorem grW_trans {w w' w'' : World} (h : GrW w w') (k : GrW w' w'') : GrW w w'' := by
  obtain ⟨q, os, rfl⟩ := h
  obtain ⟨q', os', rfl⟩ := k
  exact ⟨q + q', os ++ os', by show grow (grow ((w.drewN q).drewN q') os) os' = _; rw [grow_grow, World.drewN_drewN]⟩
theorem grW_of {w w' w'' : World} (h : ∃ q os, w' = grow (w.drewN q) os) (k : GrW w' w'') : ∃ q os, w'' = grow (w.drewN q) os := grW_trans h k
theorem GrW.cell {w w' : World} (h : GrW w w') {a : Addr} {v : Value} (hc : w.cell? a = some v) : w'.cell? a = some v := by
  obtain ⟨q, os, rfl⟩ := h
  exact cell_grown (cell_lt hc) hc q os
theorem GrW.below {w w' : World} (h : GrW w w') : Below w.heap.size w w' := by
  obtain ⟨q, os, rfl⟩ := h
  refine ⟨rfl, rfl, rfl, ?_, fun k hk => ?_⟩
  · rw [size_grow]; show w.heap.size ≤ w.heap.size + _; omega
  · show (w.heap ++ os)[k]? = w.heap[k]?
    rw [Array.getElem?_append_left hk]

theorem cmp_or (a b c d : Int) : cmpI (a, b) (c, d) = if Lib.compareInt a c = 0 then Lib.compareInt b d else Lib.compareInt a c := by
  unfold cmpI Lib.compareInt
  simp only [Prod.mk.injEq]
  split <;> split <;> (try split) <;> (try split) <;> (try split) <;> (try split) <;> simp_all <;> omega

set_option maxRecDepth 100000 in
set_option maxHeartbeats 4000000 in
theorem Compare_in (a b c d : Int) (w : World) :
    Calls Try.prog 17 #[.agg #[.int .i64 a, .int .i64 b], .agg #[.int .i64 c, .int .i64 d]] w fun e W => e = .returned (.int .i64 (cmpI (a, b) (c, d))) ∧ ∃ q os, W = grow (w.drewN q) os := by
  have he := fun W => eqI a b c d W
  by_cases h0 : (a, b) = (c, d)
  · have hz : cmpI (a, b) (c, d) = 0 := by unfold cmpI; rw [if_pos h0]
    rw [hz]
    have hd : decide ((a, b) = (c, d)) = true := by simpa using h0
    rw [hd] at he
    clear h0 hd hz
    go_enter Try.func17, Try.ntmps17
    go_wp2
    go_ret
    exact ⟨rfl, 0, _, by rw [alloc_eq_grow, alloc_eq_grow, grow_grow]; rfl⟩
  · have hd : decide ((a, b) = (c, d)) = false := by simpa using h0
    rw [hd] at he
    clear h0 hd
    rw [cmp_or a b c d]
    have HC := hide (fun (x y : Int) (W : World) => AnyG.cmp_Compare_int shCmp x y W)
    change Hid (∀ (x y : Int) (W : World), Calls Try.prog 37 _ _ _) at HC
    have HC1 := hide (unhide HC a c)
    have HC2 := hide (unhide HC b d)
    obtain ⟨X, hX⟩ : ∃ X, Lib.compareInt a c = X := ⟨_, rfl⟩
    obtain ⟨Y, hY⟩ : ∃ Y, Lib.compareInt b d = Y := ⟨_, rfl⟩
    rw [hX] at HC1 ⊢
    rw [hY] at HC2 ⊢
    clear hX hY HC
    obtain ⟨R, hR⟩ : ∃ R, (if X = 0 then Y else X) = R := ⟨_, rfl⟩
    have HO := hide (fun (W : World) (g : Nat) h0 h1 => cmpOr_in X Y W g h0 h1)
    rw [hR] at HO ⊢
    clear hR
    go_enter Try.func17, Try.ntmps17
    go_wp2
    refine wp_region_any (by kernel_rfl) ?_
    change wpAny _ _ _ _ _ _ _ (World.drew _)
    have hb0 := (Bx.new w 30 #[.int .i64 a, .int .i64 b]).below (ballc (Below.refl _ _) (.cells #[.int .i64 c, .int .i64 d] 30))
    have hb1 := Bx.new (w.alloc (.cells #[.int .i64 a, .int .i64 b] 30)) 30 #[.int .i64 c, .int .i64 d]
    rw [show (w.alloc (.cells #[.int .i64 a, .int .i64 b] 30)).heap.size = w.heap.size + 1 by simp] at hb1
    have hw2 : ∃ q os, (w.alloc (.cells #[.int .i64 a, .int .i64 b] 30)).alloc (.cells #[.int .i64 c, .int .i64 d] 30) = grow (w.drewN q) os := ⟨0, _, by rw [alloc_eq_grow, alloc_eq_grow, grow_grow]; rfl⟩
    generalize (w.alloc (.cells #[.int .i64 a, .int .i64 b] 30)).alloc (.cells #[.int .i64 c, .int .i64 d] 30) = w2 at *
    have c0 := fun n os => cell_grown hb0.lt (hb0.cell 0 _ rfl) n os
    have c1 := fun n os => cell_grown hb0.lt (hb0.cell 1 _ rfl) n os
    have c2 := fun n os => cell_grown hb1.lt (hb1.cell 0 _ rfl) n os
    have c3 := fun n os => cell_grown hb1.lt (hb1.cell 1 _ rfl) n os
    have HW := hide hw2
    clear hw2 hb0 hb1 he
    refine region_inv 20 (fun j => if j = 12 then 4 else 8 + j) [(2, .pointer (some ⟨w.heap.size, 0, none⟩)), (3, .pointer (some ⟨w.heap.size + 1, 0, none⟩))]
      (fun W => ∃ q os, W = grow (w2.drewN q) os)
      (valsOf [isV (.pointer (some ⟨w.heap.size, 0, none⟩)), isV (.int .i64 a), isV (.pointer (some ⟨w.heap.size + 1, 0, none⟩)), isV (.int .i64 c), isV (.int .i64 X), isV (.pointer (some ⟨w.heap.size, 1, none⟩)), isV (.int .i64 b), isV (.pointer (some ⟨w.heap.size + 1, 1, none⟩)), isV (.int .i64 d), isV (.int .i64 Y), (fun W v => ∃ g, v = .slice (some ⟨g, 0, none⟩) 2 2 ∧ W.cell? ⟨g, 0, none⟩ = some (.int .i64 X) ∧ W.cell? ⟨g, 1, none⟩ = some (.int .i64 Y)), isV (.int .i64 R), isV (.int .i64 R)])
      GrW ?fit (fun w1 w2 h hG => grW_of h hG) (valsOf_stable ?stable) [] ?gs ?gv ?steps ?fin _ _ ?sz rfl ?base ?start
    case fit => kernel_rfl
    case sz => rfl
    case gs => kernel_rfl
    case gv => intro p hp w v hv; cases hp
    case base => intro p hp; simp at hp; rcases hp with rfl | rfl <;> rfl
    case stable =>
      refine Stables.all ?_
      repeat (refine Stables.same ?_)
      refine Stables.other (fun w1 w2 v _ h hG => ?_) ?_
      · obtain ⟨g, e, k0, k1⟩ := h
        exact ⟨g, e, hG.cell k0, hG.cell k1⟩
      exact .same (.same .nil)
    case start => exact ⟨1, #[], by rw [grow_empty]; rfl⟩
    case steps =>
      refine .cons (fun ρ w1 hρ hJ hb hd => step_val (v := .pointer (some ⟨w.heap.size, 0, none⟩)) (w' := w1) (by have d0 : ρ (.tmp 2) = _ := hb (2, _) (.head _); simp [go_sem, execOp, d0]) ⟨grW_refl _, rfl⟩) ?_
      refine .cons (fun ρ w1 hρ hJ hb hd => by
        obtain ⟨q, os, rfl⟩ := hJ
        have d0 : ρ (.tmp 8) = .pointer (some ⟨w.heap.size, 0, none⟩) := hd 0 _ rfl rfl
        exact step_val (v := .int .i64 a) (w' := _) (by simp [go_sem, execOp, d0, c0]) ⟨grW_refl _, rfl⟩) ?_
      refine .cons (fun ρ w1 hρ hJ hb hd => step_val (v := .pointer (some ⟨w.heap.size + 1, 0, none⟩)) (w' := w1) (by have d0 : ρ (.tmp 3) = _ := hb (3, _) (.tail _ (.head _)); simp [go_sem, execOp, d0]) ⟨grW_refl _, rfl⟩) ?_
      refine .cons (fun ρ w1 hρ hJ hb hd => by
        obtain ⟨q, os, rfl⟩ := hJ
        have d0 : ρ (.tmp 10) = .pointer (some ⟨w.heap.size + 1, 0, none⟩) := hd 0 _ rfl rfl
        exact step_val (v := .int .i64 c) (w' := _) (by simp [go_sem, execOp, d0, c2]) ⟨grW_refl _, rfl⟩) ?_
      refine .cons (fun ρ w1 hρ hJ hb hd => by
        have d0 : ρ (.tmp 9) = .int .i64 a := hd 0 _ rfl rfl
        have d1 : ρ (.tmp 11) = .int .i64 c := hd 1 _ rfl rfl
        refine step_func 37 _ _ #[.int .i64 a, .int .i64 c] hρ rfl (enters_of Try.func37 (by kernel_rfl) rfl) (by simp [d0, d1]) ?_
        refine (unhide HC1 _).mono ?_
        rintro e w2 ⟨rfl, rfl⟩
        exact ⟨_, rfl, grW_refl _, rfl⟩) ?_
      refine .cons (fun ρ w1 hρ hJ hb hd => step_val (v := .pointer (some ⟨w.heap.size, 1, none⟩)) (w' := w1) (by have d0 : ρ (.tmp 2) = _ := hb (2, _) (.head _); simp [go_sem, execOp, d0]) ⟨grW_refl _, rfl⟩) ?_
      refine .cons (fun ρ w1 hρ hJ hb hd => by
        obtain ⟨q, os, rfl⟩ := hJ
        have d0 : ρ (.tmp 13) = .pointer (some ⟨w.heap.size, 1, none⟩) := hd 0 _ rfl rfl
        exact step_val (v := .int .i64 b) (w' := _) (by simp [go_sem, execOp, d0, c1]) ⟨grW_refl _, rfl⟩) ?_
      refine .cons (fun ρ w1 hρ hJ hb hd => step_val (v := .pointer (some ⟨w.heap.size + 1, 1, none⟩)) (w' := w1) (by have d0 : ρ (.tmp 3) = _ := hb (3, _) (.tail _ (.head _)); simp [go_sem, execOp, d0]) ⟨grW_refl _, rfl⟩) ?_
      refine .cons (fun ρ w1 hρ hJ hb hd => by
        obtain ⟨q, os, rfl⟩ := hJ
        have d0 : ρ (.tmp 15) = .pointer (some ⟨w.heap.size + 1, 1, none⟩) := hd 0 _ rfl rfl
        exact step_val (v := .int .i64 d) (w' := _) (by simp [go_sem, execOp, d0, c3]) ⟨grW_refl _, rfl⟩) ?_
      refine .cons (fun ρ w1 hρ hJ hb hd => by
        have d0 : ρ (.tmp 14) = .int .i64 b := hd 0 _ rfl rfl
        have d1 : ρ (.tmp 16) = .int .i64 d := hd 1 _ rfl rfl
        refine step_func 37 _ _ #[.int .i64 b, .int .i64 d] hρ rfl (enters_of Try.func37 (by kernel_rfl) rfl) (by simp [d0, d1]) ?_
        refine (unhide HC2 _).mono ?_
        rintro e w2 ⟨rfl, rfl⟩
        exact ⟨_, rfl, grW_refl _, rfl⟩) ?_
      refine .cons (fun ρ w1 hρ hJ hb hd => by
        have d0 : ρ (.tmp 12) = .int .i64 X := hd 0 _ rfl rfl
        have d1 : ρ (.tmp 17) = .int .i64 Y := hd 1 _ rfl rfl
        refine step_val (v := .slice (some ⟨w1.heap.size, 0, none⟩) 2 2) (w' := w1.alloc (.cells #[.int .i64 X, .int .i64 Y] 3)) (by simp [go_sem, execOp, d0, d1]) ⟨grW_alloc _ _, w1.heap.size, rfl, (Bx.new w1 _ _).cell 0 _ rfl, (Bx.new w1 _ _).cell 1 _ rfl⟩) ?_
      refine .cons (fun ρ w1 hρ hJ hb hd => by
        obtain ⟨g, d0, k0, k1⟩ : ∃ g, ρ (.tmp 18) = .slice (some ⟨g, 0, none⟩) 2 2 ∧ w1.cell? ⟨g, 0, none⟩ = some (.int .i64 X) ∧ w1.cell? ⟨g, 1, none⟩ = some (.int .i64 Y) := hd 0 _ rfl rfl
        refine step_func 36 _ _ #[.slice (some ⟨g, 0, none⟩) 2 2] hρ rfl (enters_of Try.func36 (by kernel_rfl) rfl) (by simp [d0]) ?_
        refine (unhide HO _ _ k0 k1).mono ?_
        rintro e w2 ⟨rfl, rfl⟩
        exact ⟨_, rfl, grW_refl _, rfl⟩) ?_
      refine .cons (fun ρ w1 hρ hJ hb hd => step_assign (.tmp 19) rfl ⟨grW_refl _, hd 0 _ rfl rfl⟩) (.nil _)
    case fin =>
      intro a W h1 h2 hJ hv
      have h10 : a.eval (.tmp 4) = .int .i64 R := hv 12 (by decide)
      clear hv
      go_wp2
      refine bodyPost_ret (v := .int .i64 R) ?_ h2 ⟨rfl, ?_⟩
      · have h4s := eval_some (a := a) (t := 4) (by omega)
        rw [h10] at h4s
        simp [results, Try.f17, h4s]
      · obtain ⟨q, os, e⟩ := unhide HW
        obtain ⟨q', os', rfl⟩ := hJ
        rw [e]
        exact ⟨q + q', os ++ os', by show grow (grow ((w.drewN q).drewN q') os) os' = _; rw [grow_grow, World.drewN_drewN]⟩

end Go.Proofs.Ytccggjhnjknblaa
