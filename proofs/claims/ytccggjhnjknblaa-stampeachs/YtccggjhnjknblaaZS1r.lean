/-
  Identifiers: the document's own.
-/
import Derived.Test.YtccggjhnjknblaaZS2
set_option linter.unusedSimpArgs false
set_option linter.unusedVariables false
namespace Go.Proofs.Ytccggjhnjknblaa
open Go.RowKit Go.Lib Go.Sort

set_option maxRecDepth 100000 in
theorem refIsID_in (t s : Int) (w : World) :
    Calls Try.prog 44 #[.agg #[.int .i64 t, .int .i64 s]] w fun e W => e = .returned (.bool (isI (t, s))) ∧ W = w.alloc (.cells #[.int .i64 t, .int .i64 s] 30) := by
  obtain ⟨R, hR⟩ : ∃ R, isI (t, s) = R := ⟨_, rfl⟩
  rw [hR]
  rcases isI_ways t s hR with ⟨h1, rfl⟩ | ⟨h1, h2, rfl⟩ | ⟨h1, h2, h3, rfl⟩ | ⟨h1, h2, h3, h4, rfl⟩ | ⟨h1, h2, h3, h4, rfl⟩
  all_goals
    clear hR
    go_enter Try.func44, Try.ntmps44
    go_wp2
    go_ret
    exact ⟨rfl, rfl⟩

set_option maxRecDepth 100000 in
theorem refCompare_in (a b c d : Int) (w : World) :
    Calls Try.prog 45 #[.agg #[.int .i64 a, .int .i64 b], .agg #[.int .i64 c, .int .i64 d]] w fun e W => e = .returned (.int .i64 (cmpI (a, b) (c, d))) ∧ ∃ q os, W = grow (w.drewN q) os := by
  have he := fun W => eqI a b c d W
  rcases cmpI_ways a b c d with ⟨h0, e⟩ | ⟨h0, h1, e⟩ | ⟨h0, h1, h2, h3, e⟩ | ⟨h0, h1, h2, h3, h4, e⟩ | ⟨h0, h1, h2, h3, e⟩
  all_goals
    rw [e]; clear e
    rw [h0] at he
    clear h0
    (try (have h2' : (a == c) = true := by simpa using h2))
    (try (have h2' : (a == c) = false := by simpa using h2))
    go_enter Try.func45, Try.ntmps45
    go_wp2
    go_ret
    exact ⟨rfl, 0, _, by rw [alloc_eq_grow, alloc_eq_grow, grow_grow]; rfl⟩

end Go.Proofs.Ytccggjhnjknblaa
