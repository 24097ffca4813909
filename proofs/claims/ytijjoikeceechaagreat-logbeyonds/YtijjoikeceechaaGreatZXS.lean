/-
  Identifiers: isID, Compare, After, isRun; the document's own.
-/
import Derived.Test.YtijjoikeceechaaGreatZB0
import Derived.Test.YtijjoikeceechaaGreatZShC
import Derived.Sort.Grow
import Derived.Test.YtijjoikeceechaaGreatZXReg
import Derived.Shelf.SlSortCmp.QuietGrown

set_option linter.unusedSimpArgs false
set_option linter.unusedVariables false
namespace Go.Proofs.YtijjoikeceechaaGreat
open Go.RowKit Go.Lib

/-- may it be an identifier? -/
def isI (x : Int × Int) : Bool := decide (1 ≤ x.1) && decide (x.1 ≤ 2147483647) && decide (1 ≤ x.2) && decide (x.2 ≤ 16)

/-- lower, the same, higher -/
def cmpI (a b : Int × Int) : Int := if a = b then 0 else if a.1 < b.1 ∨ (a.1 = b.1 ∧ a.2 < b.2) then -1 else 1

/-- so many times later -/
def aft (x : Int × Int) (n : Int) : Int × Int := if isI x = true ∧ 0 ≤ n ∧ n ≤ 2147483647 - x.1 then (x.1 + n, x.2) else (0, 0)

/-- may it be a run? -/
def isR (r : (Int × Int) × Int) : Bool := isI r.1 && decide (1 ≤ r.2) && decide (r.2 - 1 ≤ 2147483647 - r.1.1)

theorem eqI (t s t' s' : Int) (w : World) : (binOp .eql 42 (.agg #[.int .i64 t, .int .i64 s]) (.agg #[.int .i64 t', .int .i64 s'])).run Tryz.prog w = .ok (.bool (decide ((t, s) = (t', s')))) w := by
  by_cases h1 : t = t'
  · subst h1
    by_cases h2 : s = s'
    · subst h2
      simp [go_sem]
    · have hd : decide ((t, s) = (t, s')) = false := by rw [decide_eq_false_iff_not]; intro e; exact h2 (by simpa using e)
      rw [hd]
      simp [go_sem, h2]
  · have hd : decide ((t, s) = (t', s')) = false := by rw [decide_eq_false_iff_not]; intro e; exact h1 (by simp at e; exact e.1)
    rw [hd]
    simp [go_sem, h1]

theorem neqI (t s t' s' : Int) (w : World) : (binOp .neq 42 (.agg #[.int .i64 t, .int .i64 s]) (.agg #[.int .i64 t', .int .i64 s'])).run Tryz.prog w = .ok (.bool (!decide ((t, s) = (t', s')))) w := by
  by_cases h1 : t = t'
  · subst h1
    by_cases h2 : s = s'
    · subst h2
      simp [go_sem]
    · have hd : decide ((t, s) = (t, s')) = false := by rw [decide_eq_false_iff_not]; intro e; exact h2 (by simpa using e)
      rw [hd]
      simp [go_sem, h2]
  · have hd : decide ((t, s) = (t', s')) = false := by rw [decide_eq_false_iff_not]; intro e; exact h1 (by simp at e; exact e.1)
    rw [hd]
    simp [go_sem, h1]

theorem isI_ways (t s : Int) {R : Bool} (h : isI (t, s) = R) : (¬ (1 ≤ t) ∧ R = false) ∨ (1 ≤ t ∧ ¬ t ≤ 2147483647 ∧ R = false) ∨ (1 ≤ t ∧ t ≤ 2147483647 ∧ ¬ 1 ≤ s ∧ R = false) ∨ (1 ≤ t ∧ t ≤ 2147483647 ∧ 1 ≤ s ∧ ¬ s ≤ 16 ∧ R = false) ∨ (1 ≤ t ∧ t ≤ 2147483647 ∧ 1 ≤ s ∧ s ≤ 16 ∧ R = true) := by
  unfold isI at h
  by_cases h1 : 1 ≤ t <;> by_cases h2 : t ≤ 2147483647 <;> by_cases h3 : 1 ≤ s <;> by_cases h4 : s ≤ 16 <;> simp_all

set_option maxRecDepth 100000 in
theorem isID_in (t s : Int) (w : World) :
    Calls Tryz.prog 119 #[.agg #[.int .i64 t, .int .i64 s]] w fun e W => e = .returned (.bool (isI (t, s))) ∧ W = w.alloc (.cells #[.int .i64 t, .int .i64 s] 42) := by
  obtain ⟨R, hR⟩ : ∃ R, isI (t, s) = R := ⟨_, rfl⟩
  rw [hR]
  rcases isI_ways t s hR with ⟨h1, rfl⟩ | ⟨h1, h2, rfl⟩ | ⟨h1, h2, h3, rfl⟩ | ⟨h1, h2, h3, h4, rfl⟩ | ⟨h1, h2, h3, h4, rfl⟩
  all_goals
    clear hR
    go_enter Tryz.func119, Tryz.ntmps119
    go_wp2
    go_ret
    exact ⟨rfl, rfl⟩

theorem aft_ways (t s n : Int) : (isI (t, s) = false ∧ aft (t, s) n = (0, 0)) ∨ (isI (t, s) = true ∧ n < 0 ∧ aft (t, s) n = (0, 0)) ∨ (isI (t, s) = true ∧ ¬ n < 0 ∧ 2147483647 - t < n ∧ aft (t, s) n = (0, 0)) ∨ (isI (t, s) = true ∧ ¬ n < 0 ∧ ¬ 2147483647 - t < n ∧ aft (t, s) n = (t + n, s)) := by
  unfold aft
  cases h : isI (t, s)
  · simp
  · by_cases h1 : n < 0 <;> by_cases h2 : 2147483647 - t < n <;> simp [h1, h2] <;> omega

theorem isI_range {t s : Int} (h : isI (t, s) = true) : 1 ≤ t ∧ t ≤ 2147483647 ∧ 1 ≤ s ∧ s ≤ 16 := by
  unfold isI at h; simpa [Bool.and_eq_true, and_assoc] using h

theorem bx2 (w : World) (A C : Obj) (vs : Array Value) (t : TypeId) : (((w.alloc A).alloc (.cells vs t)).alloc C).heap[w.heap.size + 1]? = some (.cells vs t (0, 0)) := by
  have h := (Bx.new (w.alloc A) t vs).below (ballc (Below.refl _ _) C)
  have e : (w.alloc A).heap.size = w.heap.size + 1 := by simp
  rw [e] at h
  exact h

theorem info_ID : (Tryz.prog.info? 42).map (·.size) = some 2 := by kernel_rfl

set_option maxRecDepth 100000 in
theorem After_in (t s n : Int) (w : World) :
    Calls Tryz.prog 116 #[.agg #[.int .i64 t, .int .i64 s], .int .i64 n] w fun e W => e = .returned (.agg #[.int .i64 (aft (t, s) n).1, .int .i64 (aft (t, s) n).2]) ∧ Below w.heap.size w W := by
  have HC := hide (fun W => isID_in t s W)
  rcases aft_ways t s n with ⟨h1, e⟩ | ⟨h1, h2, e⟩ | ⟨h1, h2, h3, e⟩ | ⟨h1, h2, h3, e⟩
  all_goals
    rw [e]; clear e
    rw [h1] at HC
    go_enter Tryz.func116, Tryz.ntmps116
    go_wp2_with (go_at_call 119; refine (unhide HC _).mono ?_; rintro e W1 ⟨rfl, rfl⟩)
  · refine bodyPost_ret (results_cell_row rfl _ _ (w.heap.size + 1) _ _ _ _ rfl (bx2 _ _ _ _ _) Tryz.underlying42 rfl info_ID) rfl ?_
    exact ⟨rfl, ballc (ballc (ballc (Below.refl _ _) _) _) _⟩
  · refine bodyPost_ret (results_cell_row rfl _ _ (w.heap.size + 1) _ _ _ _ rfl (bx2 _ _ _ _ _) Tryz.underlying42 rfl info_ID) rfl ?_
    exact ⟨rfl, ballc (ballc (ballc (Below.refl _ _) _) _) _⟩
  all_goals
    obtain ⟨k1, k2, k3, k4⟩ := isI_range h1
    have e1 : wrap64 (2147483647 - t) = 2147483647 - t := IntWalk.wrap64_in _ (by omega)
    have e2 : (n ≤ 2147483647 - t → wrap64 (t + n) = t + n) := fun h => IntWalk.wrap64_in _ (by omega)
    rename_i hx
    rw [e1] at hx
  · refine bodyPost_ret (results_cell_row rfl _ _ (w.heap.size + 1) _ _ _ _ rfl (bx2 _ _ _ _ _) Tryz.underlying42 rfl info_ID) rfl ?_
    exact ⟨rfl, ballc (ballc (ballc (Below.refl _ _) _) _) _⟩
  · exfalso; omega
  · exfalso; omega
  · refine bodyPost_ret (results_cell_row rfl _ _ (w.heap.size + 1) _ _ _ _ rfl (bx2 _ _ _ _ _) Tryz.underlying42 rfl info_ID) rfl ?_
    rw [e2 (by omega)]
    exact ⟨rfl, ballc (ballc (ballc (Below.refl _ _) _) _) _⟩

theorem isR_ways (t s c : Int) : (c < 1 ∧ isR ((t, s), c) = false) ∨ (1 ≤ c ∧ isR ((t, s), c) = !decide (aft (t, s) (c - 1) = (0, 0))) := by
  by_cases h : c < 1
  · exact .inl ⟨h, by unfold isR; simp; omega⟩
  · refine .inr ⟨by omega, ?_⟩
    unfold isR
    rcases aft_ways t s (c - 1) with ⟨h1, e⟩ | ⟨h1, h2, e⟩ | ⟨h1, h2, h3, e⟩ | ⟨h1, h2, h3, e⟩
    · rw [h1, e]; simp
    · omega
    · rw [h1, e]; simp; omega
    · rw [h1, e]
      obtain ⟨k1, k2, k3, k4⟩ := isI_range h1
      rw [Bool.eq_iff_iff]
      simp
      omega

set_option maxRecDepth 100000 in
theorem isRun_in (t s c : Int) (w : World) (hc : c ≤ 9223372036854775807) :
    Calls Tryz.prog 112 #[.agg #[.int .i64 t, .int .i64 s, .int .i64 c]] w fun e W => e = .returned (.bool (isR ((t, s), c))) ∧ Below w.heap.size w W := by
  rcases isR_ways t s c with ⟨h1, e⟩ | ⟨h1, e⟩
  · rw [e]; clear e
    go_enter Tryz.func112, Tryz.ntmps112
    go_wp2
    go_ret
    exact ⟨rfl, ballc (Below.refl _ _) _⟩
  · rw [e]; clear e
    have HC : Hid (∀ (m : Int) (W : World), m = c - 1 → Calls Tryz.prog 116 #[.agg #[.int .i64 t, .int .i64 s], .int .i64 m] W fun e W' => e = .returned (.agg #[.int .i64 (aft (t, s) (c - 1)).1, .int .i64 (aft (t, s) (c - 1)).2]) ∧ Below W.heap.size W W') := fun m W h => by subst h; exact After_in t s (c - 1) W
    obtain ⟨A, hA⟩ : ∃ A, aft (t, s) (c - 1) = A := ⟨_, rfl⟩
    obtain ⟨a1, a2⟩ := A
    rw [hA] at HC ⊢
    simp only at HC
    clear hA
    have hn := fun W => neqI a1 a2 0 0 W
    generalize decide ((a1, a2) = ((0, 0) : Int × Int)) = D at *
    go_enter Tryz.func112, Tryz.ntmps112
    go_wp2_with fail
    refine (unhide HC _ _ (by first | rfl | exact IntWalk.wrap64_in _ (by omega))).mono ?_
    rintro e W1 ⟨rfl, hb⟩
    go_wp2
    go_ret
    exact ⟨rfl, bnext (ballc (Below.refl _ _) _) hb⟩

theorem cmpI_ways (a b c d : Int) : (decide ((a, b) = (c, d)) = true ∧ cmpI (a, b) (c, d) = 0) ∨ (decide ((a, b) = (c, d)) = false ∧ a < c ∧ cmpI (a, b) (c, d) = -1) ∨ (decide ((a, b) = (c, d)) = false ∧ ¬ a < c ∧ a = c ∧ b < d ∧ cmpI (a, b) (c, d) = -1) ∨ (decide ((a, b) = (c, d)) = false ∧ ¬ a < c ∧ a = c ∧ ¬ b < d ∧ d < b ∧ cmpI (a, b) (c, d) = 1) ∨ (decide ((a, b) = (c, d)) = false ∧ ¬ a < c ∧ ¬ a = c ∧ c < a ∧ cmpI (a, b) (c, d) = 1) := by
  unfold cmpI
  by_cases h : (a, b) = (c, d)
  · left; simp [h]
  · have h' : ¬ (a = c ∧ b = d) := fun e => h (by rw [e.1, e.2])
    simp only [h, decide_false, if_false, decide_true, Bool.true_eq_false, Bool.false_eq_true, false_and, false_or, true_and]
    by_cases h1 : a < c
    · left; exact ⟨h1, if_pos (.inl h1)⟩
    · by_cases h2 : a = c
      · by_cases h3 : b < d
        · right; left; exact ⟨h1, h2, h3, if_pos (.inr ⟨h2, h3⟩)⟩
        · right; right; left; exact ⟨h1, h2, h3, by omega, if_neg (by simp; omega)⟩
      · right; right; right; exact ⟨h1, h2, by omega, if_neg (by simp; omega)⟩

end Go.Proofs.YtijjoikeceechaaGreat

/-
  Compare.
-/
set_option linter.unusedSimpArgs false
set_option linter.unusedVariables false
namespace Go.Proofs.YtijjoikeceechaaGreat
open Go.RowKit Go.Lib Go.Sort

set_option maxRecDepth 100000 in
theorem cmpOr_in (x y : Int) (w : World) (g : Nat) (h0 : w.cell? ⟨g, 0, none⟩ = some (.int .i64 x)) (h1 : w.cell? ⟨g, 1, none⟩ = some (.int .i64 y)) :
    Calls Tryz.prog 117 #[.slice (some ⟨g, 0, none⟩) 2 2] w fun e W => e = .returned (.int .i64 (if x = 0 then y else x)) ∧ W = w := by
  by_cases hx : x = 0
  · subst hx
    by_cases hy : y = 0
    · subst hy
      go_enter Tryz.func117, Tryz.ntmps117
      go_wp2
      refine wp_loop_rounds 3 ?_
      rw [rounds_succ]; go_wp2
      rw [rounds_succ]; go_wp2
      rw [rounds_succ]; go_wp2
      go_ret
      exact ⟨rfl, rfl⟩
    · have hy' : (y == 0) = false := by simpa using hy
      rw [if_pos rfl]
      go_enter Tryz.func117, Tryz.ntmps117
      go_wp2
      refine wp_loop_rounds 3 ?_
      rw [rounds_succ]; go_wp2
      rw [rounds_succ]; go_wp2
      go_ret
      exact ⟨rfl, rfl⟩
  · have hx' : (x == 0) = false := by simpa using hx
    rw [if_neg hx]
    go_enter Tryz.func117, Tryz.ntmps117
    go_wp2
    refine wp_loop_rounds 3 ?_
    rw [rounds_succ]; go_wp2
    go_ret
    exact ⟨rfl, rfl⟩

/-- a world that has gone on: draws, and new blocks -/
def GrW (w w' : World) : Prop := ∃ q os, w' = grow (w.drewN q) os
theorem grW_refl (w : World) : GrW w w := ⟨0, #[], by rw [grow_empty]; rfl⟩
theorem grW_alloc (w : World) (o : Obj) : GrW w (w.alloc o) := ⟨0, _, by rw [alloc_eq_grow]; rfl⟩
theorem grW_trans {w w' w'' : World} (h : GrW w w') (k : GrW w' w'') : GrW w w'' := by
  obtain ⟨q, os, rfl⟩ := h
  obtain ⟨q', os', rfl⟩ := k
  exact ⟨q + q', os ++ os', by show grow (grow ((w.drewN q).drewN q') os) os' = _; rw [grow_grow, World.drewN_drewN]⟩
theorem grW_of {w w' w'' : World} (h : ∃ q os, w' = grow (w.drewN q) os) (k : GrW w' w'') : ∃ q os, w'' = grow (w.drewN q) os := grW_trans h k
theorem GrW.cell {w w' : World} (h : GrW w w') {a : Addr} {v : Value} (hc : w.cell? a = some v) : w'.cell? a = some v := by
  obtain ⟨q, os, rfl⟩ := h
  exact cell_grown (cell_lt hc) hc q os
theorem GrW.below {w w' : World} (h : GrW w w') : Below w.heap.size w w' := by
  obtain ⟨q, os, rfl⟩ := h
  refine ⟨rfl, rfl, rfl, ?_, fun k hk => ?_⟩
  · rw [size_grow]; show w.heap.size ≤ w.heap.size + _; omega
  · show (w.heap ++ os)[k]? = w.heap[k]?
    rw [Array.getElem?_append_left hk]

theorem cmp_or (a b c d : Int) : cmpI (a, b) (c, d) = if Lib.compareInt a c = 0 then Lib.compareInt b d else Lib.compareInt a c := by
  unfold cmpI Lib.compareInt
  simp only [Prod.mk.injEq]
  split <;> split <;> (try split) <;> (try split) <;> (try split) <;> (try split) <;> simp_all <;> omega

set_option maxRecDepth 100000 in
set_option maxHeartbeats 4000000 in
theorem Compare_in (a b c d : Int) (w : World) :
    Calls Tryz.prog 113 #[.agg #[.int .i64 a, .int .i64 b], .agg #[.int .i64 c, .int .i64 d]] w fun e W => e = .returned (.int .i64 (cmpI (a, b) (c, d))) ∧ ∃ q os, W = grow (w.drewN q) os := by
  have he := fun W => eqI a b c d W
  by_cases h0 : (a, b) = (c, d)
  · have hz : cmpI (a, b) (c, d) = 0 := by unfold cmpI; rw [if_pos h0]
    rw [hz]
    have hd : decide ((a, b) = (c, d)) = true := by simpa using h0
    rw [hd] at he
    clear h0 hd hz
    go_enter Tryz.func113, Tryz.ntmps113
    go_wp2
    go_ret
    exact ⟨rfl, 0, _, by rw [alloc_eq_grow, alloc_eq_grow, grow_grow]; rfl⟩
  · have hd : decide ((a, b) = (c, d)) = false := by simpa using h0
    rw [hd] at he
    clear h0 hd
    rw [cmp_or a b c d]
    have HC := hide (fun (x y : Int) (W : World) => AnyG.cmp_Compare_int shCmp x y W)
    change Hid (∀ (x y : Int) (W : World), Calls Tryz.prog 118 _ _ _) at HC
    have HC1 := hide (unhide HC a c)
    have HC2 := hide (unhide HC b d)
    obtain ⟨X, hX⟩ : ∃ X, Lib.compareInt a c = X := ⟨_, rfl⟩
    obtain ⟨Y, hY⟩ : ∃ Y, Lib.compareInt b d = Y := ⟨_, rfl⟩
    rw [hX] at HC1 ⊢
    rw [hY] at HC2 ⊢
    clear hX hY HC
    obtain ⟨R, hR⟩ : ∃ R, (if X = 0 then Y else X) = R := ⟨_, rfl⟩
    have HO := hide (fun (W : World) (g : Nat) h0 h1 => cmpOr_in X Y W g h0 h1)
    rw [hR] at HO ⊢
    clear hR
    go_enter Tryz.func113, Tryz.ntmps113
    go_wp2
    refine wp_region_any (by kernel_rfl) ?_
    change wpAny _ _ _ _ _ _ _ (World.drew _)
    have hb0 := (Bx.new w 42 #[.int .i64 a, .int .i64 b]).below (ballc (Below.refl _ _) (.cells #[.int .i64 c, .int .i64 d] 42))
    have hb1 := Bx.new (w.alloc (.cells #[.int .i64 a, .int .i64 b] 42)) 42 #[.int .i64 c, .int .i64 d]
    rw [show (w.alloc (.cells #[.int .i64 a, .int .i64 b] 42)).heap.size = w.heap.size + 1 by simp] at hb1
    have hw2 : ∃ q os, (w.alloc (.cells #[.int .i64 a, .int .i64 b] 42)).alloc (.cells #[.int .i64 c, .int .i64 d] 42) = grow (w.drewN q) os := ⟨0, _, by rw [alloc_eq_grow, alloc_eq_grow, grow_grow]; rfl⟩
    generalize (w.alloc (.cells #[.int .i64 a, .int .i64 b] 42)).alloc (.cells #[.int .i64 c, .int .i64 d] 42) = w2 at *
    have c0 := fun n os => cell_grown hb0.lt (hb0.cell 0 _ rfl) n os
    have c1 := fun n os => cell_grown hb0.lt (hb0.cell 1 _ rfl) n os
    have c2 := fun n os => cell_grown hb1.lt (hb1.cell 0 _ rfl) n os
    have c3 := fun n os => cell_grown hb1.lt (hb1.cell 1 _ rfl) n os
    have HW := hide hw2
    clear hw2 hb0 hb1 he
    refine region_inv 20 (fun j => if j = 12 then 4 else 8 + j) [(2, .pointer (some ⟨w.heap.size, 0, none⟩)), (3, .pointer (some ⟨w.heap.size + 1, 0, none⟩))]
      (fun W => ∃ q os, W = grow (w2.drewN q) os)
      (valsOf [isV (.pointer (some ⟨w.heap.size, 0, none⟩)), isV (.int .i64 a), isV (.pointer (some ⟨w.heap.size + 1, 0, none⟩)), isV (.int .i64 c), isV (.int .i64 X), isV (.pointer (some ⟨w.heap.size, 1, none⟩)), isV (.int .i64 b), isV (.pointer (some ⟨w.heap.size + 1, 1, none⟩)), isV (.int .i64 d), isV (.int .i64 Y), (fun W v => ∃ g, v = .slice (some ⟨g, 0, none⟩) 2 2 ∧ W.cell? ⟨g, 0, none⟩ = some (.int .i64 X) ∧ W.cell? ⟨g, 1, none⟩ = some (.int .i64 Y)), isV (.int .i64 R), isV (.int .i64 R)])
      GrW ?fit (fun w1 w2 h hG => grW_of h hG) (valsOf_stable ?stable) [] ?gs ?gv ?steps ?fin _ _ ?sz rfl ?base ?start
    case fit => kernel_rfl
    case sz => rfl
    case gs => kernel_rfl
    case gv => intro p hp w v hv; cases hp
    case base => intro p hp; simp at hp; rcases hp with rfl | rfl <;> rfl
    case stable =>
      refine Stables.all ?_
      repeat (refine Stables.same ?_)
      refine Stables.other (fun w1 w2 v _ h hG => ?_) ?_
      · obtain ⟨g, e, k0, k1⟩ := h
        exact ⟨g, e, hG.cell k0, hG.cell k1⟩
      exact .same (.same .nil)
    case start => exact ⟨1, #[], by rw [grow_empty]; rfl⟩
    case steps =>
      refine .cons (fun ρ w1 hρ hJ hb hd => step_val (v := .pointer (some ⟨w.heap.size, 0, none⟩)) (w' := w1) (by have d0 : ρ (.tmp 2) = _ := hb (2, _) (.head _); simp [go_sem, execOp, d0]) ⟨grW_refl _, rfl⟩) ?_
      refine .cons (fun ρ w1 hρ hJ hb hd => by
        obtain ⟨q, os, rfl⟩ := hJ
        have d0 : ρ (.tmp 8) = .pointer (some ⟨w.heap.size, 0, none⟩) := hd 0 _ rfl rfl
        exact step_val (v := .int .i64 a) (w' := _) (by simp [go_sem, execOp, d0, c0]) ⟨grW_refl _, rfl⟩) ?_
      refine .cons (fun ρ w1 hρ hJ hb hd => step_val (v := .pointer (some ⟨w.heap.size + 1, 0, none⟩)) (w' := w1) (by have d0 : ρ (.tmp 3) = _ := hb (3, _) (.tail _ (.head _)); simp [go_sem, execOp, d0]) ⟨grW_refl _, rfl⟩) ?_
      refine .cons (fun ρ w1 hρ hJ hb hd => by
        obtain ⟨q, os, rfl⟩ := hJ
        have d0 : ρ (.tmp 10) = .pointer (some ⟨w.heap.size + 1, 0, none⟩) := hd 0 _ rfl rfl
        exact step_val (v := .int .i64 c) (w' := _) (by simp [go_sem, execOp, d0, c2]) ⟨grW_refl _, rfl⟩) ?_
      refine .cons (fun ρ w1 hρ hJ hb hd => by
        have d0 : ρ (.tmp 9) = .int .i64 a := hd 0 _ rfl rfl
        have d1 : ρ (.tmp 11) = .int .i64 c := hd 1 _ rfl rfl
        refine step_func 118 _ _ #[.int .i64 a, .int .i64 c] hρ rfl (enters_of Tryz.func118 (by kernel_rfl) rfl) (by simp [d0, d1]) ?_
        refine (unhide HC1 _).mono ?_
        rintro e w2 ⟨rfl, rfl⟩
        exact ⟨_, rfl, grW_refl _, rfl⟩) ?_
      refine .cons (fun ρ w1 hρ hJ hb hd => step_val (v := .pointer (some ⟨w.heap.size, 1, none⟩)) (w' := w1) (by have d0 : ρ (.tmp 2) = _ := hb (2, _) (.head _); simp [go_sem, execOp, d0]) ⟨grW_refl _, rfl⟩) ?_
      refine .cons (fun ρ w1 hρ hJ hb hd => by
        obtain ⟨q, os, rfl⟩ := hJ
        have d0 : ρ (.tmp 13) = .pointer (some ⟨w.heap.size, 1, none⟩) := hd 0 _ rfl rfl
        exact step_val (v := .int .i64 b) (w' := _) (by simp [go_sem, execOp, d0, c1]) ⟨grW_refl _, rfl⟩) ?_
      refine .cons (fun ρ w1 hρ hJ hb hd => step_val (v := .pointer (some ⟨w.heap.size + 1, 1, none⟩)) (w' := w1) (by have d0 : ρ (.tmp 3) = _ := hb (3, _) (.tail _ (.head _)); simp [go_sem, execOp, d0]) ⟨grW_refl _, rfl⟩) ?_
      refine .cons (fun ρ w1 hρ hJ hb hd => by
        obtain ⟨q, os, rfl⟩ := hJ
        have d0 : ρ (.tmp 15) = .pointer (some ⟨w.heap.size + 1, 1, none⟩) := hd 0 _ rfl rfl
        exact step_val (v := .int .i64 d) (w' := _) (by simp [go_sem, execOp, d0, c3]) ⟨grW_refl _, rfl⟩) ?_
      refine .cons (fun ρ w1 hρ hJ hb hd => by
        have d0 : ρ (.tmp 14) = .int .i64 b := hd 0 _ rfl rfl
        have d1 : ρ (.tmp 16) = .int .i64 d := hd 1 _ rfl rfl
        refine step_func 118 _ _ #[.int .i64 b, .int .i64 d] hρ rfl (enters_of Tryz.func118 (by kernel_rfl) rfl) (by simp [d0, d1]) ?_
        refine (unhide HC2 _).mono ?_
        rintro e w2 ⟨rfl, rfl⟩
        exact ⟨_, rfl, grW_refl _, rfl⟩) ?_
      refine .cons (fun ρ w1 hρ hJ hb hd => by
        have d0 : ρ (.tmp 12) = .int .i64 X := hd 0 _ rfl rfl
        have d1 : ρ (.tmp 17) = .int .i64 Y := hd 1 _ rfl rfl
        refine step_val (v := .slice (some ⟨w1.heap.size, 0, none⟩) 2 2) (w' := w1.alloc (.cells #[.int .i64 X, .int .i64 Y] 3)) (by simp [go_sem, execOp, d0, d1]) ⟨grW_alloc _ _, w1.heap.size, rfl, (Bx.new w1 _ _).cell 0 _ rfl, (Bx.new w1 _ _).cell 1 _ rfl⟩) ?_
      refine .cons (fun ρ w1 hρ hJ hb hd => by
        obtain ⟨g, d0, k0, k1⟩ : ∃ g, ρ (.tmp 18) = .slice (some ⟨g, 0, none⟩) 2 2 ∧ w1.cell? ⟨g, 0, none⟩ = some (.int .i64 X) ∧ w1.cell? ⟨g, 1, none⟩ = some (.int .i64 Y) := hd 0 _ rfl rfl
        refine step_func 117 _ _ #[.slice (some ⟨g, 0, none⟩) 2 2] hρ rfl (enters_of Tryz.func117 (by kernel_rfl) rfl) (by simp [d0]) ?_
        refine (unhide HO _ _ k0 k1).mono ?_
        rintro e w2 ⟨rfl, rfl⟩
        exact ⟨_, rfl, grW_refl _, rfl⟩) ?_
      refine .cons (fun ρ w1 hρ hJ hb hd => step_assign (.tmp 19) rfl ⟨grW_refl _, hd 0 _ rfl rfl⟩) (.nil _)
    case fin =>
      intro a W h1 h2 hJ hv
      have h10 : a.eval (.tmp 4) = .int .i64 R := hv 12 (by decide)
      clear hv
      go_wp2
      refine bodyPost_ret (v := .int .i64 R) ?_ h2 ⟨rfl, ?_⟩
      · have h4s := eval_some (a := a) (t := 4) (by omega)
        rw [h10] at h4s
        simp [results, Tryz.f113, h4s]
      · obtain ⟨q, os, e⟩ := unhide HW
        obtain ⟨q', os', rfl⟩ := hJ
        rw [e]
        exact ⟨q + q', os ++ os', by show grow (grow ((w.drewN q).drewN q') os) os' = _; rw [grow_grow, World.drewN_drewN]⟩

end Go.Proofs.YtijjoikeceechaaGreat
