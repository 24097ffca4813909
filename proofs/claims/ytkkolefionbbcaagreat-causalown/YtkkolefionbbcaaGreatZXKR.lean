/-
  Identifiers: isID, Compare, After, isRun; the document's own.
-/
import Derived.Test.YtkkolefionbbcaaGreatZXV
import Derived.Shelf.SlicesG.Cmp
import Derived.Test.YtkkolefionbbcaaGreatProg
import Derived.WalkKit
import Derived.Sort.Grow
import Derived.Test.YtkkolefionbbcaaGreatZXReg
import Derived.Shelf.SlSortCmp.QuietGrown

set_option linter.unusedSimpArgs false
set_option linter.unusedVariables false
namespace Go.Proofs.YtkkolefionbbcaaGreat
open Go.RowKit Go.Lib

/-- may it be an identifier? -/
def isI (x : Int × Int) : Bool := decide (1 ≤ x.1) && decide (x.1 ≤ 2147483647) && decide (1 ≤ x.2) && decide (x.2 ≤ 16)

/-- lower, the same, higher -/
def cmpI (a b : Int × Int) : Int := if a = b then 0 else if a.1 < b.1 ∨ (a.1 = b.1 ∧ a.2 < b.2) then -1 else 1

/-- so many times later -/
def aft (x : Int × Int) (n : Int) : Int × Int := if isI x = true ∧ 0 ≤ n ∧ n ≤ 2147483647 - x.1 then (x.1 + n, x.2) else (0, 0)

/-- may it be a run? -/
def isR (r : (Int × Int) × Int) : Bool := isI r.1 && decide (1 ≤ r.2) && decide (r.2 - 1 ≤ 2147483647 - r.1.1)

theorem eqI (t s t' s' : Int) (w : World) : (binOp .eql 39 (.agg #[.int .i64 t, .int .i64 s]) (.agg #[.int .i64 t', .int .i64 s'])).run Tryz.prog w = .ok (.bool (decide ((t, s) = (t', s')))) w := by
  by_cases h1 : t = t'
  · subst h1
    by_cases h2 : s = s'
    · subst h2
      simp [go_sem]
    · have hd : decide ((t, s) = (t, s')) = false := by rw [decide_eq_false_iff_not]; intro e; exact h2 (by simpa using e)
      rw [hd]
      simp [go_sem, h2]
  · have hd : decide ((t, s) = (t', s')) = false := by rw [decide_eq_false_iff_not]; intro e; exact h1 (by simp at e; exact e.1)
    rw [hd]
    simp [go_sem, h1]

theorem neqI (t s t' s' : Int) (w : World) : (binOp .neq 39 (.agg #[.int .i64 t, .int .i64 s]) (.agg #[.int .i64 t', .int .i64 s'])).run Tryz.prog w = .ok (.bool (!decide ((t, s) = (t', s')))) w := by
  by_cases h1 : t = t'
  · subst h1
    by_cases h2 : s = s'
    · subst h2
      simp [go_sem]
    · have hd : decide ((t, s) = (t, s')) = false := by rw [decide_eq_false_iff_not]; intro e; exact h2 (by simpa using e)
      rw [hd]
      simp [go_sem, h2]
  · have hd : decide ((t, s) = (t', s')) = false := by rw [decide_eq_false_iff_not]; intro e; exact h1 (by simp at e; exact e.1)
    rw [hd]
    simp [go_sem, h1]

theorem isI_ways (t s : Int) {R : Bool} (h : isI (t, s) = R) : (¬ (1 ≤ t) ∧ R = false) ∨ (1 ≤ t ∧ ¬ t ≤ 2147483647 ∧ R = false) ∨ (1 ≤ t ∧ t ≤ 2147483647 ∧ ¬ 1 ≤ s ∧ R = false) ∨ (1 ≤ t ∧ t ≤ 2147483647 ∧ 1 ≤ s ∧ ¬ s ≤ 16 ∧ R = false) ∨ (1 ≤ t ∧ t ≤ 2147483647 ∧ 1 ≤ s ∧ s ≤ 16 ∧ R = true) := by
  unfold isI at h
  by_cases h1 : 1 ≤ t <;> by_cases h2 : t ≤ 2147483647 <;> by_cases h3 : 1 ≤ s <;> by_cases h4 : s ≤ 16 <;> simp_all

set_option maxRecDepth 100000 in
theorem isID_in (t s : Int) (w : World) :
    Calls Tryz.prog 154 #[.agg #[.int .i64 t, .int .i64 s]] w fun e W => e = .returned (.bool (isI (t, s))) ∧ W = w.alloc (.cells #[.int .i64 t, .int .i64 s] 39) := by
  obtain ⟨R, hR⟩ : ∃ R, isI (t, s) = R := ⟨_, rfl⟩
  rw [hR]
  rcases isI_ways t s hR with ⟨h1, rfl⟩ | ⟨h1, h2, rfl⟩ | ⟨h1, h2, h3, rfl⟩ | ⟨h1, h2, h3, h4, rfl⟩ | ⟨h1, h2, h3, h4, rfl⟩
  all_goals
    clear hR
    go_enter Tryz.func154, Tryz.ntmps154
    go_wp2
    go_ret
    exact ⟨rfl, rfl⟩

theorem aft_ways (t s n : Int) : (isI (t, s) = false ∧ aft (t, s) n = (0, 0)) ∨ (isI (t, s) = true ∧ n < 0 ∧ aft (t, s) n = (0, 0)) ∨ (isI (t, s) = true ∧ ¬ n < 0 ∧ 2147483647 - t < n ∧ aft (t, s) n = (0, 0)) ∨ (isI (t, s) = true ∧ ¬ n < 0 ∧ ¬ 2147483647 - t < n ∧ aft (t, s) n = (t + n, s)) := by
  unfold aft
  cases h : isI (t, s)
  · simp
  · by_cases h1 : n < 0 <;> by_cases h2 : 2147483647 - t < n <;> simp [h1, h2] <;> omega

theorem isI_range {t s : Int} (h : isI (t, s) = true) : 1 ≤ t ∧ t ≤ 2147483647 ∧ 1 ≤ s ∧ s ≤ 16 := by
  unfold isI at h; simpa [Bool.and_eq_true, and_assoc] using h

theorem bx2 (w : World) (A C : Obj) (vs : Array Value) (t : TypeId) : (((w.alloc A).alloc (.cells vs t)).alloc C).heap[w.heap.size + 1]? = some (.cells vs t (0, 0)) := by
  have h := (Bx.new (w.alloc A) t vs).below (ballc (Below.refl _ _) C)
  have e : (w.alloc A).heap.size = w.heap.size + 1 := by simp
  rw [e] at h
  exact h

theorem info_ID : (Tryz.prog.info? 39).map (·.size) = some 2 := by kernel_rfl

set_option maxRecDepth 100000 in
theorem After_in (t s n : Int) (w : World) :
    Calls Tryz.prog 153 #[.agg #[.int .i64 t, .int .i64 s], .int .i64 n] w fun e W => e = .returned (.agg #[.int .i64 (aft (t, s) n).1, .int .i64 (aft (t, s) n).2]) ∧ Below w.heap.size w W := by
  have HC := hide (fun W => isID_in t s W)
  rcases aft_ways t s n with ⟨h1, e⟩ | ⟨h1, h2, e⟩ | ⟨h1, h2, h3, e⟩ | ⟨h1, h2, h3, e⟩
  all_goals
    rw [e]; clear e
    rw [h1] at HC
    go_enter Tryz.func153, Tryz.ntmps153
    go_wp2_with (go_at_call 154; refine (unhide HC _).mono ?_; rintro e W1 ⟨rfl, rfl⟩)
  · refine bodyPost_ret (results_cell_row rfl _ _ (w.heap.size + 1) _ _ _ _ rfl (bx2 _ _ _ _ _) Tryz.underlying39 rfl info_ID) rfl ?_
    exact ⟨rfl, ballc (ballc (ballc (Below.refl _ _) _) _) _⟩
  · refine bodyPost_ret (results_cell_row rfl _ _ (w.heap.size + 1) _ _ _ _ rfl (bx2 _ _ _ _ _) Tryz.underlying39 rfl info_ID) rfl ?_
    exact ⟨rfl, ballc (ballc (ballc (Below.refl _ _) _) _) _⟩
  all_goals
    obtain ⟨k1, k2, k3, k4⟩ := isI_range h1
    have e1 : wrap64 (2147483647 - t) = 2147483647 - t := IntWalk.wrap64_in _ (by omega)
    have e2 : (n ≤ 2147483647 - t → wrap64 (t + n) = t + n) := fun h => IntWalk.wrap64_in _ (by omega)
    rename_i hx
    rw [e1] at hx
  · refine bodyPost_ret (results_cell_row rfl _ _ (w.heap.size + 1) _ _ _ _ rfl (bx2 _ _ _ _ _) Tryz.underlying39 rfl info_ID) rfl ?_
    exact ⟨rfl, ballc (ballc (ballc (Below.refl _ _) _) _) _⟩
  · exfalso; omega
  · exfalso; omega
  · refine bodyPost_ret (results_cell_row rfl _ _ (w.heap.size + 1) _ _ _ _ rfl (bx2 _ _ _ _ _) Tryz.underlying39 rfl info_ID) rfl ?_
    rw [e2 (by omega)]
    exact ⟨rfl, ballc (ballc (ballc (Below.refl _ _) _) _) _⟩

theorem isR_ways (t s c : Int) : (c < 1 ∧ isR ((t, s), c) = false) ∨ (1 ≤ c ∧ isR ((t, s), c) = !decide (aft (t, s) (c - 1) = (0, 0))) := by
  by_cases h : c < 1
  · exact .inl ⟨h, by unfold isR; simp; omega⟩
  · refine .inr ⟨by omega, ?_⟩
    unfold isR
    rcases aft_ways t s (c - 1) with ⟨h1, e⟩ | ⟨h1, h2, e⟩ | ⟨h1, h2, h3, e⟩ | ⟨h1, h2, h3, e⟩
    · rw [h1, e]; simp
    · omega
    · rw [h1, e]; simp; omega
    · rw [h1, e]
      obtain ⟨k1, k2, k3, k4⟩ := isI_range h1
      rw [Bool.eq_iff_iff]
      simp
      omega

set_option maxRecDepth 100000 in
theorem isRun_in (t s c : Int) (w : World) (hc : c ≤ 9223372036854775807) :
    Calls Tryz.prog 149 #[.agg #[.int .i64 t, .int .i64 s, .int .i64 c]] w fun e W => e = .returned (.bool (isR ((t, s), c))) ∧ Below w.heap.size w W := by
  rcases isR_ways t s c with ⟨h1, e⟩ | ⟨h1, e⟩
  · rw [e]; clear e
    go_enter Tryz.func149, Tryz.ntmps149
    go_wp2
    go_ret
    exact ⟨rfl, ballc (Below.refl _ _) _⟩
  · rw [e]; clear e
    have HC : Hid (∀ (m : Int) (W : World), m = c - 1 → Calls Tryz.prog 153 #[.agg #[.int .i64 t, .int .i64 s], .int .i64 m] W fun e W' => e = .returned (.agg #[.int .i64 (aft (t, s) (c - 1)).1, .int .i64 (aft (t, s) (c - 1)).2]) ∧ Below W.heap.size W W') := fun m W h => by subst h; exact After_in t s (c - 1) W
    obtain ⟨A, hA⟩ : ∃ A, aft (t, s) (c - 1) = A := ⟨_, rfl⟩
    obtain ⟨a1, a2⟩ := A
    rw [hA] at HC ⊢
    simp only at HC
    clear hA
    have hn := fun W => neqI a1 a2 0 0 W
    generalize decide ((a1, a2) = ((0, 0) : Int × Int)) = D at *
    go_enter Tryz.func149, Tryz.ntmps149
    go_wp2_with fail
    refine (unhide HC _ _ (by first | rfl | exact IntWalk.wrap64_in _ (by omega))).mono ?_
    rintro e W1 ⟨rfl, hb⟩
    go_wp2
    go_ret
    exact ⟨rfl, bnext (ballc (Below.refl _ _) _) hb⟩

theorem cmpI_ways (a b c d : Int) : (decide ((a, b) = (c, d)) = true ∧ cmpI (a, b) (c, d) = 0) ∨ (decide ((a, b) = (c, d)) = false ∧ a < c ∧ cmpI (a, b) (c, d) = -1) ∨ (decide ((a, b) = (c, d)) = false ∧ ¬ a < c ∧ a = c ∧ b < d ∧ cmpI (a, b) (c, d) = -1) ∨ (decide ((a, b) = (c, d)) = false ∧ ¬ a < c ∧ a = c ∧ ¬ b < d ∧ d < b ∧ cmpI (a, b) (c, d) = 1) ∨ (decide ((a, b) = (c, d)) = false ∧ ¬ a < c ∧ ¬ a = c ∧ c < a ∧ cmpI (a, b) (c, d) = 1) := by
  unfold cmpI
  by_cases h : (a, b) = (c, d)
  · left; simp [h]
  · have h' : ¬ (a = c ∧ b = d) := fun e => h (by rw [e.1, e.2])
    simp only [h, decide_false, if_false, decide_true, Bool.true_eq_false, Bool.false_eq_true, false_and, false_or, true_and]
    by_cases h1 : a < c
    · left; exact ⟨h1, if_pos (.inl h1)⟩
    · by_cases h2 : a = c
      · by_cases h3 : b < d
        · right; left; exact ⟨h1, h2, h3, if_pos (.inr ⟨h2, h3⟩)⟩
        · right; right; left; exact ⟨h1, h2, h3, by omega, if_neg (by simp; omega)⟩
      · right; right; right; exact ⟨h1, h2, by omega, if_neg (by simp; omega)⟩

end Go.Proofs.YtkkolefionbbcaaGreat

/-
  The library's contracts of cmp.Compare, laid at this program's numbers.
-/
namespace Go.Proofs.YtkkolefionbbcaaGreat
open Go.Shelf Go.RowKit

set_option maxRecDepth 100000

def shCmp_ren : Go.Shelf.Ren := ⟨fun | 5 => 79 | 7 => 102 | n => n, fun | 3 => 3 | 4 => 4 | 22 => 3 | n => n, fun n => n⟩
theorem shCmp : Go.Proofs.SlLaysC2.n5 Tryz.prog shCmp_ren := {
  mixed := by kernel_rfl
  f5 := ⟨Tryz.f79.name, by kernel_rfl, Tryz.func79.trans (congrArg some (by kernel_rfl))⟩
  f7 := ⟨Tryz.f102.name, by kernel_rfl, Tryz.func102.trans (congrArg some (by kernel_rfl))⟩
  t3 := Tryz.underlying3
  a3 := Tryz.isAgg3
  z3 := Tryz.sizeOf3
  v3 := Tryz.zeroValue3
  t4 := Tryz.underlying4
  a4 := Tryz.isAgg4
  z4 := Tryz.sizeOf4
  v4 := Tryz.zeroValue4
  t22 := Tryz.underlying3
  a22 := Tryz.isAgg3
  z22 := Tryz.sizeOf3
  v22 := Tryz.zeroValue3 }

end Go.Proofs.YtkkolefionbbcaaGreat

/-
  Compare.
-/
set_option linter.unusedSimpArgs false
set_option linter.unusedVariables false
namespace Go.Proofs.YtkkolefionbbcaaGreat
open Go.RowKit Go.Lib Go.Sort

set_option maxRecDepth 100000 in
theorem cmpOr_in (x y : Int) (w : World) (g : Nat) (h0 : w.cell? ⟨g, 0, none⟩ = some (.int .i64 x)) (h1 : w.cell? ⟨g, 1, none⟩ = some (.int .i64 y)) :
    Calls Tryz.prog 78 #[.slice (some ⟨g, 0, none⟩) 2 2] w fun e W => e = .returned (.int .i64 (if x = 0 then y else x)) ∧ W = w := by
  by_cases hx : x = 0
  · subst hx
    by_cases hy : y = 0
    · subst hy
      go_enter Tryz.func78, Tryz.ntmps78
      go_wp2
      refine wp_loop_rounds 3 ?_
      rw [rounds_succ]; go_wp2
      rw [rounds_succ]; go_wp2
      rw [rounds_succ]; go_wp2
      go_ret
      exact ⟨rfl, rfl⟩
    · have hy' : (y == 0) = false := by simpa using hy
      rw [if_pos rfl]
      go_enter Tryz.func78, Tryz.ntmps78
      go_wp2
      refine wp_loop_rounds 3 ?_
      rw [rounds_succ]; go_wp2
      rw [rounds_succ]; go_wp2
      go_ret
      exact ⟨rfl, rfl⟩
  · have hx' : (x == 0) = false := by simpa using hx
    rw [if_neg hx]
    go_enter Tryz.func78, Tryz.ntmps78
    go_wp2
    refine wp_loop_rounds 3 ?_
    rw [rounds_succ]; go_wp2
    go_ret
    exact ⟨rfl, rfl⟩

/-- a world that has gone on: draws, and new blocks -/
def GrW (w w' : World) : Prop := ∃ q os, w' = grow (w.drewN q) os
theorem grW_refl (w : World) : GrW w w := ⟨0, #[], by rw [grow_empty]; rfl⟩
theorem grW_alloc (w : World) (o : Obj) : GrW w (w.alloc o) := ⟨0, _, by rw [alloc_eq_grow]; rfl⟩
theorem grW_trans {w w' w'' : World} (h : GrW w w') (k : GrW w' w'') : GrW w w'' := by
  obtain ⟨q, os, rfl⟩ := h
  obtain ⟨q', os', rfl⟩ := k
  exact ⟨q + q', os ++ os', by show grow (grow ((w.drewN q).drewN q') os) os' = _; rw [grow_grow, World.drewN_drewN]⟩
theorem grW_of {w w' w'' : World} (h : ∃ q os, w' = grow (w.drewN q) os) (k : GrW w' w'') : ∃ q os, w'' = grow (w.drewN q) os := grW_trans h k
theorem GrW.cell {w w' : World} (h : GrW w w') {a : Addr} {v : Value} (hc : w.cell? a = some v) : w'.cell? a = some v := by
  obtain ⟨q, os, rfl⟩ := h
  exact cell_grown (cell_lt hc) hc q os
theorem GrW.below {w w' : World} (h : GrW w w') : Below w.heap.size w w' := by
  obtain ⟨q, os, rfl⟩ := h
  refine ⟨rfl, rfl, rfl, ?_, fun k hk => ?_⟩
  · rw [size_grow]; show w.heap.size ≤ w.heap.size + _; omega
  · show (w.heap ++ os)[k]? = w.heap[k]?
    rw [Array.getElem?_append_left hk]

theorem cmp_or (a b c d : Int) : cmpI (a, b) (c, d) = if Lib.compareInt a c = 0 then Lib.compareInt b d else Lib.compareInt a c := by
  unfold cmpI Lib.compareInt
  simp only [Prod.mk.injEq]
  split <;> split <;> (try split) <;> (try split) <;> (try split) <;> (try split) <;> simp_all <;> omega

set_option maxRecDepth 100000 in
set_option maxHeartbeats 4000000 in
theorem Compare_in (a b c d : Int) (w : World) :
    Calls Tryz.prog 150 #[.agg #[.int .i64 a, .int .i64 b], .agg #[.int .i64 c, .int .i64 d]] w fun e W => e = .returned (.int .i64 (cmpI (a, b) (c, d))) ∧ ∃ q os, W = grow (w.drewN q) os := by
  have he := fun W => eqI a b c d W
  by_cases h0 : (a, b) = (c, d)
  · have hz : cmpI (a, b) (c, d) = 0 := by unfold cmpI; rw [if_pos h0]
    rw [hz]
    have hd : decide ((a, b) = (c, d)) = true := by simpa using h0
    rw [hd] at he
    clear h0 hd hz
    go_enter Tryz.func150, Tryz.ntmps150
    go_wp2
    go_ret
    exact ⟨rfl, 0, _, by rw [alloc_eq_grow, alloc_eq_grow, grow_grow]; rfl⟩
  · have hd : decide ((a, b) = (c, d)) = false := by simpa using h0
    rw [hd] at he
    clear h0 hd
    rw [cmp_or a b c d]
    have HC := hide (fun (x y : Int) (W : World) => AnyG.cmp_Compare_int shCmp x y W)
    change Hid (∀ (x y : Int) (W : World), Calls Tryz.prog 79 _ _ _) at HC
    have HC1 := hide (unhide HC a c)
    have HC2 := hide (unhide HC b d)
    obtain ⟨X, hX⟩ : ∃ X, Lib.compareInt a c = X := ⟨_, rfl⟩
    obtain ⟨Y, hY⟩ : ∃ Y, Lib.compareInt b d = Y := ⟨_, rfl⟩
    rw [hX] at HC1 ⊢
    rw [hY] at HC2 ⊢
    clear hX hY HC
    obtain ⟨R, hR⟩ : ∃ R, (if X = 0 then Y else X) = R := ⟨_, rfl⟩
    have HO := hide (fun (W : World) (g : Nat) h0 h1 => cmpOr_in X Y W g h0 h1)
    rw [hR] at HO ⊢
    clear hR
    go_enter Tryz.func150, Tryz.ntmps150
    go_wp2
    refine wp_region_any (by kernel_rfl) ?_
    change wpAny _ _ _ _ _ _ _ (World.drew _)
    have hb0 := (Bx.new w 39 #[.int .i64 a, .int .i64 b]).below (ballc (Below.refl _ _) (.cells #[.int .i64 c, .int .i64 d] 39))
    have hb1 := Bx.new (w.alloc (.cells #[.int .i64 a, .int .i64 b] 39)) 39 #[.int .i64 c, .int .i64 d]
    rw [show (w.alloc (.cells #[.int .i64 a, .int .i64 b] 39)).heap.size = w.heap.size + 1 by simp] at hb1
    have hw2 : ∃ q os, (w.alloc (.cells #[.int .i64 a, .int .i64 b] 39)).alloc (.cells #[.int .i64 c, .int .i64 d] 39) = grow (w.drewN q) os := ⟨0, _, by rw [alloc_eq_grow, alloc_eq_grow, grow_grow]; rfl⟩
    generalize (w.alloc (.cells #[.int .i64 a, .int .i64 b] 39)).alloc (.cells #[.int .i64 c, .int .i64 d] 39) = w2 at *
    have c0 := fun n os => cell_grown hb0.lt (hb0.cell 0 _ rfl) n os
    have c1 := fun n os => cell_grown hb0.lt (hb0.cell 1 _ rfl) n os
    have c2 := fun n os => cell_grown hb1.lt (hb1.cell 0 _ rfl) n os
    have c3 := fun n os => cell_grown hb1.lt (hb1.cell 1 _ rfl) n os
    have HW := hide hw2
    clear hw2 hb0 hb1 he
    refine region_inv 20 (fun j => if j = 12 then 4 else 8 + j) [(2, .pointer (some ⟨w.heap.size, 0, none⟩)), (3, .pointer (some ⟨w.heap.size + 1, 0, none⟩))]
      (fun W => ∃ q os, W = grow (w2.drewN q) os)
      (valsOf [isV (.pointer (some ⟨w.heap.size, 0, none⟩)), isV (.int .i64 a), isV (.pointer (some ⟨w.heap.size + 1, 0, none⟩)), isV (.int .i64 c), isV (.int .i64 X), isV (.pointer (some ⟨w.heap.size, 1, none⟩)), isV (.int .i64 b), isV (.pointer (some ⟨w.heap.size + 1, 1, none⟩)), isV (.int .i64 d), isV (.int .i64 Y), (fun W v => ∃ g, v = .slice (some ⟨g, 0, none⟩) 2 2 ∧ W.cell? ⟨g, 0, none⟩ = some (.int .i64 X) ∧ W.cell? ⟨g, 1, none⟩ = some (.int .i64 Y)), isV (.int .i64 R), isV (.int .i64 R)])
      GrW ?fit (fun w1 w2 h hG => grW_of h hG) (valsOf_stable ?stable) [] ?gs ?gv ?steps ?fin _ _ ?sz rfl ?base ?start
    case fit => kernel_rfl
    case sz => rfl
    case gs => kernel_rfl
    case gv => intro p hp w v hv; cases hp
    case base => intro p hp; simp at hp; rcases hp with rfl | rfl <;> rfl
    case stable =>
      refine Stables.all ?_
      repeat (refine Stables.same ?_)
      refine Stables.other (fun w1 w2 v _ h hG => ?_) ?_
      · obtain ⟨g, e, k0, k1⟩ := h
        exact ⟨g, e, hG.cell k0, hG.cell k1⟩
      exact .same (.same .nil)
    case start => exact ⟨1, #[], by rw [grow_empty]; rfl⟩
    case steps =>
      refine .cons (fun ρ w1 hρ hJ hb hd => step_val (v := .pointer (some ⟨w.heap.size, 0, none⟩)) (w' := w1) (by have d0 : ρ (.tmp 2) = _ := hb (2, _) (.head _); simp [go_sem, execOp, d0]) ⟨grW_refl _, rfl⟩) ?_
      refine .cons (fun ρ w1 hρ hJ hb hd => by
        obtain ⟨q, os, rfl⟩ := hJ
        have d0 : ρ (.tmp 8) = .pointer (some ⟨w.heap.size, 0, none⟩) := hd 0 _ rfl rfl
        exact step_val (v := .int .i64 a) (w' := _) (by simp [go_sem, execOp, d0, c0]) ⟨grW_refl _, rfl⟩) ?_
      refine .cons (fun ρ w1 hρ hJ hb hd => step_val (v := .pointer (some ⟨w.heap.size + 1, 0, none⟩)) (w' := w1) (by have d0 : ρ (.tmp 3) = _ := hb (3, _) (.tail _ (.head _)); simp [go_sem, execOp, d0]) ⟨grW_refl _, rfl⟩) ?_
      refine .cons (fun ρ w1 hρ hJ hb hd => by
        obtain ⟨q, os, rfl⟩ := hJ
        have d0 : ρ (.tmp 10) = .pointer (some ⟨w.heap.size + 1, 0, none⟩) := hd 0 _ rfl rfl
        exact step_val (v := .int .i64 c) (w' := _) (by simp [go_sem, execOp, d0, c2]) ⟨grW_refl _, rfl⟩) ?_
      refine .cons (fun ρ w1 hρ hJ hb hd => by
        have d0 : ρ (.tmp 9) = .int .i64 a := hd 0 _ rfl rfl
        have d1 : ρ (.tmp 11) = .int .i64 c := hd 1 _ rfl rfl
        refine step_func 79 _ _ #[.int .i64 a, .int .i64 c] hρ rfl (enters_of Tryz.func79 (by kernel_rfl) rfl) (by simp [d0, d1]) ?_
        refine (unhide HC1 _).mono ?_
        rintro e w2 ⟨rfl, rfl⟩
        exact ⟨_, rfl, grW_refl _, rfl⟩) ?_
      refine .cons (fun ρ w1 hρ hJ hb hd => step_val (v := .pointer (some ⟨w.heap.size, 1, none⟩)) (w' := w1) (by have d0 : ρ (.tmp 2) = _ := hb (2, _) (.head _); simp [go_sem, execOp, d0]) ⟨grW_refl _, rfl⟩) ?_
      refine .cons (fun ρ w1 hρ hJ hb hd => by
        obtain ⟨q, os, rfl⟩ := hJ
        have d0 : ρ (.tmp 13) = .pointer (some ⟨w.heap.size, 1, none⟩) := hd 0 _ rfl rfl
        exact step_val (v := .int .i64 b) (w' := _) (by simp [go_sem, execOp, d0, c1]) ⟨grW_refl _, rfl⟩) ?_
      refine .cons (fun ρ w1 hρ hJ hb hd => step_val (v := .pointer (some ⟨w.heap.size + 1, 1, none⟩)) (w' := w1) (by have d0 : ρ (.tmp 3) = _ := hb (3, _) (.tail _ (.head _)); simp [go_sem, execOp, d0]) ⟨grW_refl _, rfl⟩) ?_
      refine .cons (fun ρ w1 hρ hJ hb hd => by
        obtain ⟨q, os, rfl⟩ := hJ
        have d0 : ρ (.tmp 15) = .pointer (some ⟨w.heap.size + 1, 1, none⟩) := hd 0 _ rfl rfl
        exact step_val (v := .int .i64 d) (w' := _) (by simp [go_sem, execOp, d0, c3]) ⟨grW_refl _, rfl⟩) ?_
      refine .cons (fun ρ w1 hρ hJ hb hd => by
        have d0 : ρ (.tmp 14) = .int .i64 b := hd 0 _ rfl rfl
        have d1 : ρ (.tmp 16) = .int .i64 d := hd 1 _ rfl rfl
        refine step_func 79 _ _ #[.int .i64 b, .int .i64 d] hρ rfl (enters_of Tryz.func79 (by kernel_rfl) rfl) (by simp [d0, d1]) ?_
        refine (unhide HC2 _).mono ?_
        rintro e w2 ⟨rfl, rfl⟩
        exact ⟨_, rfl, grW_refl _, rfl⟩) ?_
      refine .cons (fun ρ w1 hρ hJ hb hd => by
        have d0 : ρ (.tmp 12) = .int .i64 X := hd 0 _ rfl rfl
        have d1 : ρ (.tmp 17) = .int .i64 Y := hd 1 _ rfl rfl
        refine step_val (v := .slice (some ⟨w1.heap.size, 0, none⟩) 2 2) (w' := w1.alloc (.cells #[.int .i64 X, .int .i64 Y] 3)) (by simp [go_sem, execOp, d0, d1]) ⟨grW_alloc _ _, w1.heap.size, rfl, (Bx.new w1 _ _).cell 0 _ rfl, (Bx.new w1 _ _).cell 1 _ rfl⟩) ?_
      refine .cons (fun ρ w1 hρ hJ hb hd => by
        obtain ⟨g, d0, k0, k1⟩ : ∃ g, ρ (.tmp 18) = .slice (some ⟨g, 0, none⟩) 2 2 ∧ w1.cell? ⟨g, 0, none⟩ = some (.int .i64 X) ∧ w1.cell? ⟨g, 1, none⟩ = some (.int .i64 Y) := hd 0 _ rfl rfl
        refine step_func 78 _ _ #[.slice (some ⟨g, 0, none⟩) 2 2] hρ rfl (enters_of Tryz.func78 (by kernel_rfl) rfl) (by simp [d0]) ?_
        refine (unhide HO _ _ k0 k1).mono ?_
        rintro e w2 ⟨rfl, rfl⟩
        exact ⟨_, rfl, grW_refl _, rfl⟩) ?_
      refine .cons (fun ρ w1 hρ hJ hb hd => step_assign (.tmp 19) rfl ⟨grW_refl _, hd 0 _ rfl rfl⟩) (.nil _)
    case fin =>
      intro a W h1 h2 hJ hv
      have h10 : a.eval (.tmp 4) = .int .i64 R := hv 12 (by decide)
      clear hv
      go_wp2
      refine bodyPost_ret (v := .int .i64 R) ?_ h2 ⟨rfl, ?_⟩
      · have h4s := eval_some (a := a) (t := 4) (by omega)
        rw [h10] at h4s
        simp [results, Tryz.f150, h4s]
      · obtain ⟨q, os, e⟩ := unhide HW
        obtain ⟨q', os', rfl⟩ := hJ
        rw [e]
        exact ⟨q + q', os ++ os', by show grow (grow ((w.drewN q).drewN q') os) os' = _; rw [grow_grow, World.drewN_drewN]⟩

end Go.Proofs.YtkkolefionbbcaaGreat

/-
  Runs: their form, as the document says it and as the program finds it (pure).
-/
set_option linter.unusedSimpArgs false
set_option linter.unusedVariables false
namespace Go.Proofs.YtkkolefionbbcaaGreat
open Go.RowKit Go.Lib

def encR (r : (Int × Int) × Int) : List Value := [.int .i64 r.1.1, .int .i64 r.1.2, .int .i64 r.2]
theorem encR_len (r : (Int × Int) × Int) : (encR r).length = 3 := rfl

def runIn (r : (Int × Int) × Int) : Prop := idIn r.1 ∧ in64 r.2

/-- a row of identifiers, of runs -/
def RR (W : World) (v : Value) (l : List ((Int × Int) × Int)) : Prop := RC W v l.length (flat encR l)
theorem RR.below {W W' : World} {v : Value} {l : List ((Int × Int) × Int)} (h : RR W v l) (hb : Below W.heap.size W W') : RR W' v l := RC.below h hb
theorem RR.at {W : World} {a : Option Addr} {n c : Nat} {l : List ((Int × Int) × Int)} (h : RR W (.slice a n c) l) {i : Nat} {r : (Int × Int) × Int} (hi : l[i]? = some r) : ∃ b off, a = some ⟨b, off, none⟩ ∧ b < W.heap.size ∧ W.cell? ⟨b, off + i * 3, none⟩ = some (.int .i64 r.1.1) ∧ W.cell? ⟨b, off + i * 3 + 1, none⟩ = some (.int .i64 r.1.2) ∧ W.cell? ⟨b, off + i * 3 + 2, none⟩ = some (.int .i64 r.2) := by
  have hl := (List.getElem?_eq_some_iff.1 hi).1
  rcases h with ⟨h0, _⟩ | ⟨b, off, cap, e, h1, h2, hc⟩
  · omega
  · simp at e
    obtain ⟨rfl, _⟩ := e
    have f := fun q (hq : q < 3) v (hv : (encR r)[q]? = some v) => hc (i * 3 + q) v ((flat_get encR_len l i q r hi hq).trans hv)
    exact ⟨b, off, rfl, h2, f 0 (by omega) _ rfl, f 1 (by omega) _ rfl, f 2 (by omega) _ rfl⟩

/-- does it follow those that are done? -/
def badO (done : List ((Int × Int) × Int)) (r : (Int × Int) × Int) : Bool := match done.getLast? with | none => false | some q => decide (0 ≤ cmpI q.1 r.1)
def badF (done : List ((Int × Int) × Int)) (r : (Int × Int) × Int) : Bool := done.any fun q => decide (q.1.2 = r.1.2) && decide (r.1.1 ≤ q.1.1 + q.2)
def chkA : List ((Int × Int) × Int) → List ((Int × Int) × Int) → Int
  | _, [] => 0
  | done, r :: l => if isR r = false then 1 else if badO done r = true then 9 else if badF done r = true then 6 else chkA (done ++ [r]) l
/-- why runs are not in their form -/
def chkR (l : List ((Int × Int) × Int)) : Int := chkA [] l

/-- of a site, the time that would follow its last run -/
def fol (done : List ((Int × Int) × Int)) (s : Int) : Int := match (done.filter fun q => decide (q.1.2 = s)).getLast? with | none => 0 | some q => q.1.1 + q.2
def lastI (done : List ((Int × Int) × Int)) : Int × Int := match done.getLast? with | none => (0, 0) | some q => q.1

theorem fol_nil (s : Int) : fol [] s = 0 := rfl
theorem fol_snoc (done : List ((Int × Int) × Int)) (r : (Int × Int) × Int) (s : Int) : fol (done ++ [r]) s = if r.1.2 = s then r.1.1 + r.2 else fol done s := by
  unfold fol
  rw [List.filter_append]
  by_cases h : r.1.2 = s
  · simp [h]
  · simp [h]
theorem lastI_snoc (done : List ((Int × Int) × Int)) (r : (Int × Int) × Int) : lastI (done ++ [r]) = r.1 := by simp [lastI]

theorem cmpI_pos {a b : Int × Int} : cmpI a b = 1 ↔ b.1 < a.1 ∨ (a.1 = b.1 ∧ b.2 < a.2) := by
  obtain ⟨a1, a2⟩ := a
  obtain ⟨b1, b2⟩ := b
  unfold cmpI
  simp only [Prod.mk.injEq]
  split
  · simp; omega
  · split
    · simp; omega
    · simp; omega
theorem cmpI_le {a b : Int × Int} : cmpI a b ≤ 0 ↔ ¬ (b.1 < a.1 ∨ (a.1 = b.1 ∧ b.2 < a.2)) := by
  rw [← cmpI_pos]
  unfold cmpI
  split
  · simp
  · split <;> simp
theorem cmpI_ge {a b : Int × Int} : 0 ≤ cmpI a b ↔ ¬ (a.1 < b.1 ∨ (a.1 = b.1 ∧ a.2 < b.2)) := by
  obtain ⟨a1, a2⟩ := a
  obtain ⟨b1, b2⟩ := b
  unfold cmpI
  simp only [Prod.mk.injEq]
  split
  · simp; omega
  · split
    · simp; omega
    · simp; omega

theorem isR_range {r : (Int × Int) × Int} (h : isR r = true) : 1 ≤ r.1.1 ∧ r.1.1 ≤ 2147483647 ∧ 1 ≤ r.1.2 ∧ r.1.2 ≤ 16 ∧ 1 ≤ r.2 ∧ r.1.1 + r.2 ≤ 2147483648 := by
  unfold isR isI at h
  simp [Bool.and_eq_true] at h
  omega

theorem badO_eq (done : List ((Int × Int) × Int)) (r : (Int × Int) × Int) (hr : isR r = true) : badO done r = decide (cmpI r.1 (lastI done) ≤ 0) := by
  have h := isR_range hr
  unfold badO lastI
  cases hl : done.getLast? with
  | none =>
    rw [Bool.eq_iff_iff]
    rw [decide_eq_true_iff, cmpI_le]
    simp
    omega
  | some q =>
    rw [Bool.eq_iff_iff, decide_eq_true_iff, decide_eq_true_iff, cmpI_le, cmpI_ge]
    simp only
    omega

/-- what is done is in its form: of a site the ends rise -/
def DoneOk (done : List ((Int × Int) × Int)) : Prop := (∀ q ∈ done, isR q = true) ∧ ∀ s, ∀ q ∈ done, q.1.2 = s → q.1.1 + q.2 ≤ fol done s
theorem DoneOk.nil : DoneOk [] := ⟨fun q h => (by cases h), fun s q h => (by cases h)⟩
theorem badF_eq {done : List ((Int × Int) × Int)} (hd : DoneOk done) (r : (Int × Int) × Int) (hr : isR r = true) : badF done r = decide (r.1.1 ≤ fol done r.1.2) := by
  have h := isR_range hr
  rw [Bool.eq_iff_iff, decide_eq_true_iff]
  unfold badF
  simp only [List.any_eq_true, Bool.and_eq_true, decide_eq_true_eq]
  constructor
  · rintro ⟨q, hq, h1, h2⟩
    have := hd.2 r.1.2 q hq h1
    omega
  · intro h1
    have hf : fol done r.1.2 ≠ 0 := by omega
    unfold fol at h1 hf
    cases hl : (done.filter fun q => decide (q.1.2 = r.1.2)).getLast? with
    | none => rw [hl] at hf; exact absurd rfl hf
    | some q =>
      rw [hl] at h1
      have hq := List.mem_of_getLast? hl
      simp at hq
      exact ⟨q, hq.1, hq.2, h1⟩
theorem DoneOk.snoc {done : List ((Int × Int) × Int)} (hd : DoneOk done) {r : (Int × Int) × Int} (hr : isR r = true) (hf : badF done r = false) : DoneOk (done ++ [r]) := by
  have hb := badF_eq hd r hr
  rw [hf] at hb
  have h1 := of_decide_eq_false hb.symm
  have h2 := isR_range hr
  refine ⟨fun q hq => ?_, fun s q hq hs => ?_⟩
  · rcases List.mem_append.1 hq with h | h
    · exact hd.1 q h
    · simp at h; subst h; exact hr
  · rw [fol_snoc]
    rcases List.mem_append.1 hq with h | h
    · have := hd.2 s q h hs
      split
      · rename_i e
        rw [e] at h1
        omega
      · exact this
    · simp at h
      subst h
      rw [if_pos hs]
      omega

end Go.Proofs.YtkkolefionbbcaaGreat

/-
  Check.
-/
set_option linter.unusedSimpArgs false
set_option linter.unusedVariables false
namespace Go.Proofs.YtkkolefionbbcaaGreat
open Go.RowKit Go.Lib

def folA (done : List ((Int × Int) × Int)) : Array Value := ((List.range 17).map fun s : Nat => Value.int .i64 (fol done (s : Int))).toArray
theorem folA_nil : folA [] = #[.int .i64 0, .int .i64 0, .int .i64 0, .int .i64 0, .int .i64 0, .int .i64 0, .int .i64 0, .int .i64 0, .int .i64 0, .int .i64 0, .int .i64 0, .int .i64 0, .int .i64 0, .int .i64 0, .int .i64 0, .int .i64 0, .int .i64 0] := rfl
theorem folA_get (done : List ((Int × Int) × Int)) (s : Nat) (h : s < 17) : (folA done)[s]? = some (.int .i64 (fol done (s : Int))) := by
  unfold folA
  rw [List.getElem?_toArray, List.getElem?_map, List.getElem?_range h]
  rfl
theorem folA_set (done : List ((Int × Int) × Int)) (t c : Int) (s : Nat) (h : s < 17) : (folA done).setIfInBounds s (.int .i64 (t + c)) = folA (done ++ [((t, (s : Int)), c)]) := by
  have hsz : ∀ d, (folA d).size = 17 := fun d => by simp [folA]
  refine Array.ext (by rw [Array.size_setIfInBounds, hsz, hsz]) fun j h1 h2 => ?_
  have hj : j < 17 := by rw [hsz] at h2; exact h2
  have g := folA_get (done ++ [((t, (s : Int)), c)]) j hj
  rw [Array.getElem?_eq_getElem h2] at g
  have g0 := folA_get done j hj
  rw [Array.getElem?_eq_getElem (by rw [hsz]; exact hj)] at g0
  simp only [Option.some.injEq] at g g0
  rw [g, Array.getElem_setIfInBounds (by rw [hsz]; exact hj), fol_snoc]
  by_cases e : s = j
  · subst e
    simp
  · rw [if_neg e, if_neg (by simp; omega), g0]

set_option maxRecDepth 100000 in
set_option maxHeartbeats 4000000 in
theorem RCheck_in (v : Value) (l : List ((Int × Int) × Int)) (w : World) (h : RR w v l) (hin : ∀ r ∈ l, runIn r) (hl : l.length ≤ 1000000000) :
    Calls Tryz.prog 146 #[v] w fun e W => e = .returned (.int .i64 (chkR l)) ∧ Below w.heap.size w W := by
  obtain ⟨a, cap, rfl⟩ := RC.form h
  have H := hide h
  have Hin := hide hin
  obtain ⟨n, hn⟩ : ∃ n, l.length = n := ⟨_, rfl⟩
  rw [hn] at H hl ⊢
  have Hn := hide hn
  obtain ⟨R, hR⟩ : ∃ R, chkR l = R := ⟨_, rfl⟩
  rw [hR]
  have HR := hide hR
  clear h hin hn hR
  go_enter Tryz.func146, Tryz.ntmps146
  go_wp2
  go_loopw [9] (fun iv wr => ∃ i : Nat, iv = .int .i64 (i : Nat) ∧ i ≤ n ∧ Hid (chkA (l.take i) (l.drop i) = R ∧ DoneOk (l.take i) ∧ Bx wr w.heap.size 88 (folA (l.take i)) ∧ Bx wr (w.heap.size + 1) 39 #[.int .i64 (lastI (l.take i)).1, .int .i64 (lastI (l.take i)).2] ∧ Below w.heap.size w wr)) (fun iv _ => n - (Lib.intOf iv).toNat)
  case atStart =>
    refine ⟨0, rfl, by omega, hide ⟨by rw [← unhide HR]; rfl, DoneOk.nil, ?_, ?_, ballc (ballc (Below.refl _ _) _) _⟩⟩
    · rw [List.take_zero, folA_nil]
      exact (Bx.new w _ _).below (ballc (Below.refl _ _) _)
    · have := Bx.new (w.alloc (.cells (folA []) 88)) 39 #[.int .i64 0, .int .i64 0]
      rw [show (w.alloc (.cells (folA []) 88)).heap.size = w.heap.size + 1 by simp] at this
      exact this
  case round =>
    obtain ⟨i, rfl, hin2, HH⟩ := hrel
    obtain ⟨hchk, hdone, hbf, hbl, hB⟩ := unhide HH
    by_cases hlt : i < n
    · have hlt' : (i : Int) < (n : Int) := by omega
      obtain ⟨r, hr⟩ : ∃ r, l[i]? = some r := ⟨_, List.getElem?_eq_getElem (by have := unhide Hn; omega)⟩
      have hrin := unhide Hin r (List.mem_of_getElem? hr)
      obtain ⟨b0, off, rfl, hb0, c0, c1, c2⟩ := RR.at ((unhide H).below hB) hr
      have hdr : l.drop i = r :: l.drop (i + 1) := by
        have hil := (List.getElem?_eq_some_iff.1 hr).1
        rw [List.drop_eq_getElem_cons hil]
        rw [List.getElem?_eq_getElem hil] at hr
        simp at hr
        rw [hr]
      have htk : l.take (i + 1) = l.take i ++ [r] := by rw [List.take_add_one, hr]; rfl
      obtain ⟨⟨t, s⟩, c⟩ := r
      simp only at c0 c1 c2
      rw [hdr] at hchk
      have HC := hide (fun W => isRun_in t s c W hrin.2.2)
      have Htk := hide htk
      have Hchk := hide hchk
      have Hdone := hide hdone
      have Hbf := hide hbf
      have Hbl := hide hbl
      have HB := hide hB
      have Hr := hide hrin
      have hltB : w.heap.size + 1 < wr.heap.size := hbl.lt
      clear HH hr hrin hdr htk hchk hdone hbf hbl hB H
      go_wp2_with fail
      refine (unhide HC _).mono ?_
      rintro e W1 ⟨rfl, hb1⟩
      have hb1' := bnext (ballc (Below.refl _ wr) _) hb1
      have bx := (Bx.new wr 72 #[.int .i64 t, .int .i64 s, .int .i64 c]).below hb1
      have HB1 := hide (bnext (unhide HB) hb1')
      have Hbf1 := hide ((unhide Hbf).below hb1')
      have Hbl1 := hide ((unhide Hbl).below hb1')
      have x0 := bx.cell 0 _ rfl
      have x1 := bx.cell 1 _ rfl
      have x2 := bx.cell 2 _ rfl
      have Hbx := hide bx
      clear hb1 hb1' HC Hbf Hbl HB bx
      cases hR : isR ((t, s), c) with
      | false =>
        have HRe := hide (show R = 1 by have h := unhide Hchk; rw [chkA, if_pos hR] at h; exact h.symm)
        clear hR
        go_wp2
        go_ret
        rw [unhide HRe]
        exact ⟨rfl, unhide HB1⟩
      | true =>
        have HRt := hide hR
        have hrg := isR_range hR
        simp only at hrg
        obtain ⟨g1, g2, g3, g4, g5, g6⟩ := hrg
        obtain ⟨sn, rfl⟩ : ∃ sn : Nat, s = (sn : Int) := ⟨s.toNat, by omega⟩
        obtain ⟨la, lb, hla⟩ : ∃ la lb, lastI (l.take i) = (la, lb) := ⟨_, _, rfl⟩
        have hO := badO_eq (l.take i) _ hR
        rw [hla] at hO
        simp only at hO
        have hF := badF_eq (unhide Hdone) _ hR
        simp only at hF
        rw [hla] at Hbl1
        have l0 := (unhide Hbl1).cell 0 _ rfl
        have l1 := (unhide Hbl1).cell 1 _ rfl
        simp only at l0 l1
        have HCm := hide (fun W => Compare_in t sn la lb W)
        generalize cmpI (t, (sn : Int)) (la, lb) = cm at hO HCm
        have Hfz := hide (show folA (l.take i) = folA (l.take i) from rfl)
        obtain ⟨fo, hfo⟩ : ∃ fo, fol (l.take i) (sn : Int) = fo := ⟨_, rfl⟩
        rw [hfo] at hF
        have Hfo := hide hfo
        clear hR hla hfo
        go_wp2_with fail
        refine (unhide HCm _).mono ?_
        rintro e W2 ⟨rfl, hb2⟩
        have hb2' := GrW.below hb2
        have HB2 := hide (bnext (unhide HB1) hb2')
        have Hbf2 := hide ((unhide Hbf1).below hb2')
        have Hbl2 := hide ((unhide Hbl1).below hb2')
        have bx := (unhide Hbx).below hb2'
        have y0 := bx.cell 0 _ rfl
        have y1 := bx.cell 1 _ rfl
        have y2 := bx.cell 2 _ rfl
        have fc := (unhide Hbf2).cell sn _ (folA_get (l.take i) sn (by omega))
        rw [unhide Hfo] at fc
        have ff := (unhide Hbf2).frozen sn
        have lf0 := (unhide Hbl2).frozen 0
        have lf1 := (unhide Hbl2).frozen 1
        have l0 := (unhide Hbl2).cell 0 _ rfl
        have l1 := (unhide Hbl2).cell 1 _ rfl
        have Hbx2 := hide bx
        clear hb2 hb2' HCm Hbf1 Hbl1 HB1 bx x0 x1 x2 Hbx
        by_cases hcm : cm ≤ 0
        · have HRe := hide (show R = 9 by have h := unhide Hchk; rw [chkA, if_neg (by rw [unhide HRt]; simp), if_pos (by rw [hO]; simpa using hcm)] at h; exact h.symm)
          clear hO hF
          go_wp2
          go_ret
          rw [unhide HRe]
          exact ⟨rfl, unhide HB2⟩
        · have HO2 := hide (show badO (l.take i) ((t, (sn : Int)), c) = false by rw [hO]; simpa using hcm)
          clear hO
          have hsn : (sn : Int) < 17 := by omega
          by_cases hfo : t ≤ fo
          · have HRe := hide (show R = 6 by have h := unhide Hchk; rw [chkA, if_neg (by rw [unhide HRt]; simp), if_neg (by rw [unhide HO2]; simp), if_pos (by rw [hF]; simpa using hfo)] at h; exact h.symm)
            clear hF
            go_wp2
            go_quiet (fail)
            go_wp2
            go_ret
            rw [unhide HRe]
            exact ⟨rfl, bdrew (unhide HB2) _⟩
          · have HF2 := hide (show badF (l.take i) ((t, (sn : Int)), c) = false by rw [hF]; simpa using hfo)
            clear hF
            go_wp2
            go_quiet (fail)
            have bx0 : Bx (W2.drewN nq) wr.heap.size 72 #[.int .i64 t, .int .i64 (sn : Nat), .int .i64 c] := unhide Hbx2
            have bf0 : Bx (W2.drewN nq) w.heap.size 88 (folA (l.take i)) := unhide Hbf2
            have bl0 : Bx (W2.drewN nq) (w.heap.size + 1) 39 #[.int .i64 la, .int .i64 lb] := unhide Hbl2
            have B0 := bdrew (unhide HB2) nq
            clear y0 y1 y2 fc ff lf0 lf1 l0 l1
            generalize W2.drewN nq = W3 at *
            have q0 := bx0.cell 0 _ rfl
            have q1 := bx0.cell 1 _ rfl
            have p0 := bl0.cell 0 _ rfl
            have p1 := bl0.cell 1 _ rfl
            have pf0 := bl0.frozen 0
            have pf1 := bl0.frozen 1
            obtain ⟨X, hX⟩ : ∃ X, (W3.setCell ⟨w.heap.size + 1, 0, none⟩ (.int .i64 t)).setCell ⟨w.heap.size + 1, 1, none⟩ (.int .i64 (sn : Nat)) = X := ⟨_, rfl⟩
            have bx1 : Bx X wr.heap.size 72 #[.int .i64 t, .int .i64 (sn : Nat), .int .i64 c] := by rw [← hX]; exact (bx0.setO _ (by show wr.heap.size ≠ w.heap.size + 1; omega) _).setO _ (by show wr.heap.size ≠ w.heap.size + 1; omega) _
            have bf1 : Bx X w.heap.size 88 (folA (l.take i)) := by rw [← hX]; exact (bf0.setO _ (by show w.heap.size ≠ w.heap.size + 1; omega) _).setO _ (by show w.heap.size ≠ w.heap.size + 1; omega) _
            have bl1 : Bx X (w.heap.size + 1) 39 #[.int .i64 t, .int .i64 (sn : Nat)] := by rw [← hX]; simpa using (bl0.set 0 (.int .i64 t)).set 1 (.int .i64 (sn : Nat))
            have B1 : Below w.heap.size w X := by rw [← hX]; exact bset (bset B0 ⟨w.heap.size + 1, 0, none⟩ (by show w.heap.size ≤ w.heap.size + 1; omega) _) ⟨w.heap.size + 1, 1, none⟩ (by show w.heap.size ≤ w.heap.size + 1; omega) _
            have z0 := bx1.cell 0 _ rfl
            have z1 := bx1.cell 1 _ rfl
            have z2 := bx1.cell 2 _ rfl
            have fc := bf1.cell sn _ (folA_get (l.take i) sn (by omega))
            have ff := bf1.frozen sn
            replace bx0 := hide bx0
            replace bf0 := hide bf0
            replace bl0 := hide bl0
            replace bx1 := hide bx1
            replace bf1 := hide bf1
            replace bl1 := hide bl1
            replace B1 := hide B1
            go_wp2
            go_roundw
            case measure => show n - ((i : Int) + 1).toNat < n - ((i : Nat) : Int).toNat; omega
            case rel =>
              refine ⟨i + 1, by go_num, by omega, hide ⟨?_, ?_, ?_, ?_, ?_⟩⟩
              · have h := unhide Hchk
                rw [chkA, if_neg (by rw [unhide HRt]; simp), if_neg (by rw [unhide HO2]; simp), if_neg (by rw [unhide HF2]; simp)] at h
                rw [unhide Htk]
                exact h
              · rw [unhide Htk]
                exact (unhide Hdone).snoc (unhide HRt) (unhide HF2)
              · rw [unhide Htk, ← folA_set _ _ _ _ (by omega)]
                exact (unhide bf1).set sn _
              · rw [unhide Htk, lastI_snoc]
                exact (unhide bl1).setO _ (by show w.heap.size + 1 ≠ w.heap.size; omega) _
              · exact bset (unhide B1) _ (Nat.le_refl _) _
    · have hlt' : ¬ (i : Int) < (n : Int) := by omega
      have HRe := hide (show R = 0 by rw [List.drop_eq_nil_of_le (by have := unhide Hn; omega), chkA] at hchk; exact hchk.symm)
      have HB := hide hB
      clear HH hchk hdone hbf hbl hB
      go_wp2
      go_ret
      rw [unhide HRe]
      exact ⟨rfl, unhide HB⟩

end Go.Proofs.YtkkolefionbbcaaGreat
