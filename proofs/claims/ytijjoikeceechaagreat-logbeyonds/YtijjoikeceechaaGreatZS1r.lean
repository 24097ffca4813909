/-
  Identifiers: the document's own.
-/
import Derived.Test.YtijjoikeceechaaGreatZXS
set_option linter.unusedSimpArgs false
set_option linter.unusedVariables false
namespace Go.Proofs.YtijjoikeceechaaGreat
open Go.RowKit Go.Lib Go.Sort

set_option maxRecDepth 100000 in
theorem refIsID_in (t s : Int) (w : World) :
    Calls Tryz.prog 75 #[.agg #[.int .i64 t, .int .i64 s]] w fun e W => e = .returned (.bool (isI (t, s))) ∧ W = w.alloc (.cells #[.int .i64 t, .int .i64 s] 42) := by
  obtain ⟨R, hR⟩ : ∃ R, isI (t, s) = R := ⟨_, rfl⟩
  rw [hR]
  rcases isI_ways t s hR with ⟨h1, rfl⟩ | ⟨h1, h2, rfl⟩ | ⟨h1, h2, h3, rfl⟩ | ⟨h1, h2, h3, h4, rfl⟩ | ⟨h1, h2, h3, h4, rfl⟩
  all_goals
    clear hR
    go_enter Tryz.func75, Tryz.ntmps75
    go_wp2
    go_ret
    exact ⟨rfl, rfl⟩

set_option maxRecDepth 100000 in
theorem refAfter_in (t s n : Int) (w : World) :
    Calls Tryz.prog 74 #[.agg #[.int .i64 t, .int .i64 s], .int .i64 n] w fun e W => e = .returned (.agg #[.int .i64 (aft (t, s) n).1, .int .i64 (aft (t, s) n).2]) ∧ Below w.heap.size w W := by
  have HC := hide (fun W => refIsID_in t s W)
  rcases aft_ways t s n with ⟨h1, e⟩ | ⟨h1, h2, e⟩ | ⟨h1, h2, h3, e⟩ | ⟨h1, h2, h3, e⟩
  all_goals
    rw [e]; clear e
    rw [h1] at HC
    go_enter Tryz.func74, Tryz.ntmps74
    go_wp2_with (go_at_call 75; refine (unhide HC _).mono ?_; rintro e W1 ⟨rfl, rfl⟩)
  · refine bodyPost_ret (results_cell_row rfl _ _ (w.heap.size + 1) _ _ _ _ rfl (bx2 _ _ _ _ _) Tryz.underlying42 rfl info_ID) rfl ?_
    exact ⟨rfl, ballc (ballc (ballc (Below.refl _ _) _) _) _⟩
  · refine bodyPost_ret (results_cell_row rfl _ _ (w.heap.size + 1) _ _ _ _ rfl (bx2 _ _ _ _ _) Tryz.underlying42 rfl info_ID) rfl ?_
    exact ⟨rfl, ballc (ballc (ballc (Below.refl _ _) _) _) _⟩
  all_goals
    obtain ⟨k1, k2, k3, k4⟩ := isI_range h1
    have e1 : wrap64 (2147483647 - t) = 2147483647 - t := IntWalk.wrap64_in _ (by omega)
    have e2 : (n ≤ 2147483647 - t → wrap64 (t + n) = t + n) := fun h => IntWalk.wrap64_in _ (by omega)
    rename_i hx
    rw [e1] at hx
  · refine bodyPost_ret (results_cell_row rfl _ _ (w.heap.size + 1) _ _ _ _ rfl (bx2 _ _ _ _ _) Tryz.underlying42 rfl info_ID) rfl ?_
    exact ⟨rfl, ballc (ballc (ballc (Below.refl _ _) _) _) _⟩
  · exfalso; omega
  · exfalso; omega
  · refine bodyPost_ret (results_cell_row rfl _ _ (w.heap.size + 1) _ _ _ _ rfl (bx2 _ _ _ _ _) Tryz.underlying42 rfl info_ID) rfl ?_
    rw [e2 (by omega)]
    exact ⟨rfl, ballc (ballc (ballc (Below.refl _ _) _) _) _⟩

set_option maxRecDepth 100000 in
theorem refCompare_in (a b c d : Int) (w : World) :
    Calls Tryz.prog 76 #[.agg #[.int .i64 a, .int .i64 b], .agg #[.int .i64 c, .int .i64 d]] w fun e W => e = .returned (.int .i64 (cmpI (a, b) (c, d))) ∧ ∃ q os, W = grow (w.drewN q) os := by
  have he := fun W => eqI a b c d W
  rcases cmpI_ways a b c d with ⟨h0, e⟩ | ⟨h0, h1, e⟩ | ⟨h0, h1, h2, h3, e⟩ | ⟨h0, h1, h2, h3, h4, e⟩ | ⟨h0, h1, h2, h3, e⟩
  all_goals
    rw [e]; clear e
    rw [h0] at he
    clear h0
    (try (have h2' : (a == c) = true := by simpa using h2))
    (try (have h2' : (a == c) = false := by simpa using h2))
    go_enter Tryz.func76, Tryz.ntmps76
    go_wp2
    go_ret
    exact ⟨rfl, 0, _, by rw [alloc_eq_grow, alloc_eq_grow, grow_grow]; rfl⟩

end Go.Proofs.YtijjoikeceechaaGreat
