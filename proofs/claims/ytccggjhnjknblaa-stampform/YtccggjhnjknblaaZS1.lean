/-
  Identifiers: isID, Compare, After, isRun; the document's own.
-/
import Derived.Test.YtccggjhnjknblaaZB0
set_option linter.unusedSimpArgs false
set_option linter.unusedVariables false
namespace Go.Proofs.Ytccggjhnjknblaa
open Go.RowKit Go.Lib

/-- may it be an identifier? -/
def isI (x : Int × Int) : Bool := decide (1 ≤ x.1) && decide (x.1 ≤ 2147483647) && decide (1 ≤ x.2) && decide (x.2 ≤ 16)

/-- lower, the same, higher -/
def cmpI (a b : Int × Int) : Int := if a = b then 0 else if a.1 < b.1 ∨ (a.1 = b.1 ∧ a.2 < b.2) then -1 else 1

/-- so many times later -/
def aft (x : Int × Int) (n : Int) : Int × Int := if isI x = true ∧ 0 ≤ n ∧ n ≤ 2147483647 - x.1 then (x.1 + n, x.2) else (0, 0)

/-- may it be a run? -/
def isR (r : (Int × Int) × Int) : Bool := isI r.1 && decide (1 ≤ r.2) && decide (r.2 - 1 ≤ 2147483647 - r.1.1)

theorem eqI (t s t' s' : Int) (w : World) : (binOp .eql 30 (.agg #[.int .i64 t, .int .i64 s]) (.agg #[.int .i64 t', .int .i64 s'])).run Try.prog w = .ok (.bool (decide ((t, s) = (t', s')))) w := by
  by_cases h1 : t = t'
  · subst h1
    by_cases h2 : s = s'
    · subst h2
      simp [go_sem]
    · have hd : decide ((t, s) = (t, s')) = false := by rw [decide_eq_false_iff_not]; intro e; exact h2 (by simpa using e)
      rw [hd]
      simp [go_sem, h2]
  · have hd : decide ((t, s) = (t', s')) = false := by rw [decide_eq_false_iff_not]; intro e; exact h1 (by simp at e; exact e.1)
    rw [hd]
    simp [go_sem, h1]

theorem neqI (t s t' s' : Int) (w : World) : (binOp .neq 30 (.agg #[.int .i64 t, .int .i64 s]) (.agg #[.int .i64 t', .int .i64 s'])).run Try.prog w = .ok (.bool (!decide ((t, s) = (t', s')))) w := by
  by_cases h1 : t = t'
  · subst h1
    by_cases h2 : s = s'
    · subst h2
      simp [go_sem]
    · have hd : decide ((t, s) = (t, s')) = false := by rw [decide_eq_false_iff_not]; intro e; exact h2 (by simpa using e)
      rw [hd]
      simp [go_sem, h2]
  · have hd : decide ((t, s) = (t', s')) = false := by rw [decide_eq_false_iff_not]; intro e; exact h1 (by simp at e; exact e.1)
    rw [hd]
    simp [go_sem, h1]

theorem isI_ways (t s : Int) {R : Bool} (h : isI (t, s) = R) : (¬ (1 ≤ t) ∧ R = false) ∨ (1 ≤ t ∧ ¬ t ≤ 2147483647 ∧ R = false) ∨ (1 ≤ t ∧ t ≤ 2147483647 ∧ ¬ 1 ≤ s ∧ R = false) ∨ (1 ≤ t ∧ t ≤ 2147483647 ∧ 1 ≤ s ∧ ¬ s ≤ 16 ∧ R = false) ∨ (1 ≤ t ∧ t ≤ 2147483647 ∧ 1 ≤ s ∧ s ≤ 16 ∧ R = true) := by
  unfold isI at h
  by_cases h1 : 1 ≤ t <;> by_cases h2 : t ≤ 2147483647 <;> by_cases h3 : 1 ≤ s <;> by_cases h4 : s ≤ 16 <;> simp_all

set_option maxRecDepth 100000 in
theorem isID_in (t s : Int) (w : World) :
    Calls Try.prog 32 #[.agg #[.int .i64 t, .int .i64 s]] w fun e W => e = .returned (.bool (isI (t, s))) ∧ W = w.alloc (.cells #[.int .i64 t, .int .i64 s] 30) := by
  obtain ⟨R, hR⟩ : ∃ R, isI (t, s) = R := ⟨_, rfl⟩
  rw [hR]
  rcases isI_ways t s hR with ⟨h1, rfl⟩ | ⟨h1, h2, rfl⟩ | ⟨h1, h2, h3, rfl⟩ | ⟨h1, h2, h3, h4, rfl⟩ | ⟨h1, h2, h3, h4, rfl⟩
  all_goals
    clear hR
    go_enter Try.func32, Try.ntmps32
    go_wp2
    go_ret
    exact ⟨rfl, rfl⟩

theorem aft_ways (t s n : Int) : (isI (t, s) = false ∧ aft (t, s) n = (0, 0)) ∨ (isI (t, s) = true ∧ n < 0 ∧ aft (t, s) n = (0, 0)) ∨ (isI (t, s) = true ∧ ¬ n < 0 ∧ 2147483647 - t < n ∧ aft (t, s) n = (0, 0)) ∨ (isI (t, s) = true ∧ ¬ n < 0 ∧ ¬ 2147483647 - t < n ∧ aft (t, s) n = (t + n, s)) := by
  unfold aft
  cases h : isI (t, s)
  · simp
  · by_cases h1 : n < 0 <;> by_cases h2 : 2147483647 - t < n <;> simp [h1, h2] <;> omega

theorem isI_range {t s : Int} (h : isI (t, s) = true) : 1 ≤ t ∧ t ≤ 2147483647 ∧ 1 ≤ s ∧ s ≤ 16 := by
  unfold isI at h; simpa [Bool.and_eq_true, and_assoc] using h

theorem bx2 (w : World) (A C : Obj) (vs : Array Value) (t : TypeId) : (((w.alloc A).alloc (.cells vs t)).alloc C).heap[w.heap.size + 1]? = some (.cells vs t (0, 0)) := by
  have h := (Bx.new (w.alloc A) t vs).below (ballc (Below.refl _ _) C)
  have e : (w.alloc A).heap.size = w.heap.size + 1 := by simp
  rw [e] at h
  exact h

theorem info_ID : (Try.prog.info? 30).map (·.size) = some 2 := by kernel_rfl

set_option maxRecDepth 100000 in
theorem After_in (t s n : Int) (w : World) :
    Calls Try.prog 30 #[.agg #[.int .i64 t, .int .i64 s], .int .i64 n] w fun e W => e = .returned (.agg #[.int .i64 (aft (t, s) n).1, .int .i64 (aft (t, s) n).2]) ∧ Below w.heap.size w W := by
  have HC := hide (fun W => isID_in t s W)
  rcases aft_ways t s n with ⟨h1, e⟩ | ⟨h1, h2, e⟩ | ⟨h1, h2, h3, e⟩ | ⟨h1, h2, h3, e⟩
  all_goals
    rw [e]; clear e
    rw [h1] at HC
    go_enter Try.func30, Try.ntmps30
    go_wp2_with (go_at_call 32; refine (unhide HC _).mono ?_; rintro e W1 ⟨rfl, rfl⟩)
  · refine bodyPost_ret (results_cell_row rfl _ _ (w.heap.size + 1) _ _ _ _ rfl (bx2 _ _ _ _ _) Try.underlying30 rfl info_ID) rfl ?_
    exact ⟨rfl, ballc (ballc (ballc (Below.refl _ _) _) _) _⟩
  · refine bodyPost_ret (results_cell_row rfl _ _ (w.heap.size + 1) _ _ _ _ rfl (bx2 _ _ _ _ _) Try.underlying30 rfl info_ID) rfl ?_
    exact ⟨rfl, ballc (ballc (ballc (Below.refl _ _) _) _) _⟩
  all_goals
    obtain ⟨k1, k2, k3, k4⟩ := isI_range h1
    have e1 : wrap64 (2147483647 - t) = 2147483647 - t := IntWalk.wrap64_in _ (by omega)
    have e2 : (n ≤ 2147483647 - t → wrap64 (t + n) = t + n) := fun h => IntWalk.wrap64_in _ (by omega)
    rename_i hx
    rw [e1] at hx
  · refine bodyPost_ret (results_cell_row rfl _ _ (w.heap.size + 1) _ _ _ _ rfl (bx2 _ _ _ _ _) Try.underlying30 rfl info_ID) rfl ?_
    exact ⟨rfl, ballc (ballc (ballc (Below.refl _ _) _) _) _⟩
  · exfalso; omega
  · exfalso; omega
  · refine bodyPost_ret (results_cell_row rfl _ _ (w.heap.size + 1) _ _ _ _ rfl (bx2 _ _ _ _ _) Try.underlying30 rfl info_ID) rfl ?_
    rw [e2 (by omega)]
    exact ⟨rfl, ballc (ballc (ballc (Below.refl _ _) _) _) _⟩

theorem isR_ways (t s c : Int) : (c < 1 ∧ isR ((t, s), c) = false) ∨ (1 ≤ c ∧ isR ((t, s), c) = !decide (aft (t, s) (c - 1) = (0, 0))) := by
  by_cases h : c < 1
  · exact .inl ⟨h, by unfold isR; simp; omega⟩
  · refine .inr ⟨by omega, ?_⟩
    unfold isR
    rcases aft_ways t s (c - 1) with ⟨h1, e⟩ | ⟨h1, h2, e⟩ | ⟨h1, h2, h3, e⟩ | ⟨h1, h2, h3, e⟩
    · rw [h1, e]; simp
    · omega
    · rw [h1, e]; simp; omega
    · rw [h1, e]
      obtain ⟨k1, k2, k3, k4⟩ := isI_range h1
      rw [Bool.eq_iff_iff]
      simp
      omega

set_option maxRecDepth 100000 in
theorem isRun_in (t s c : Int) (w : World) (hc : c ≤ 9223372036854775807) :
    Calls Try.prog 33 #[.agg #[.int .i64 t, .int .i64 s, .int .i64 c]] w fun e W => e = .returned (.bool (isR ((t, s), c))) ∧ Below w.heap.size w W := by
  rcases isR_ways t s c with ⟨h1, e⟩ | ⟨h1, e⟩
  · rw [e]; clear e
    go_enter Try.func33, Try.ntmps33
    go_wp2
    go_ret
    exact ⟨rfl, ballc (Below.refl _ _) _⟩
  · rw [e]; clear e
    have HC : Hid (∀ (m : Int) (W : World), m = c - 1 → Calls Try.prog 30 #[.agg #[.int .i64 t, .int .i64 s], .int .i64 m] W fun e W' => e = .returned (.agg #[.int .i64 (aft (t, s) (c - 1)).1, .int .i64 (aft (t, s) (c - 1)).2]) ∧ Below W.heap.size W W') := fun m W h => by subst h; exact After_in t s (c - 1) W
    obtain ⟨A, hA⟩ : ∃ A, aft (t, s) (c - 1) = A := ⟨_, rfl⟩
    obtain ⟨a1, a2⟩ := A
    rw [hA] at HC ⊢
    simp only at HC
    clear hA
    have hn := fun W => neqI a1 a2 0 0 W
    generalize decide ((a1, a2) = ((0, 0) : Int × Int)) = D at *
    go_enter Try.func33, Try.ntmps33
    go_wp2_with fail
    refine (unhide HC _ _ (by first | rfl | exact IntWalk.wrap64_in _ (by omega))).mono ?_
    rintro e W1 ⟨rfl, hb⟩
    go_wp2
    go_ret
    exact ⟨rfl, bnext (ballc (Below.refl _ _) _) hb⟩

theorem cmpI_ways (a b c d : Int) : (decide ((a, b) = (c, d)) = true ∧ cmpI (a, b) (c, d) = 0) ∨ (decide ((a, b) = (c, d)) = false ∧ a < c ∧ cmpI (a, b) (c, d) = -1) ∨ (decide ((a, b) = (c, d)) = false ∧ ¬ a < c ∧ a = c ∧ b < d ∧ cmpI (a, b) (c, d) = -1) ∨ (decide ((a, b) = (c, d)) = false ∧ ¬ a < c ∧ a = c ∧ ¬ b < d ∧ d < b ∧ cmpI (a, b) (c, d) = 1) ∨ (decide ((a, b) = (c, d)) = false ∧ ¬ a < c ∧ ¬ a = c ∧ c < a ∧ cmpI (a, b) (c, d) = 1) := by
  unfold cmpI
  by_cases h : (a, b) = (c, d)
  · left; simp [h]
  · have h' : ¬ (a = c ∧ b = d) := fun e => h (by rw [e.1, e.2])
    simp only [h, decide_false, if_false, decide_true, Bool.true_eq_false, Bool.false_eq_true, false_and, false_or, true_and]
    by_cases h1 : a < c
    · left; exact ⟨h1, if_pos (.inl h1)⟩
    · by_cases h2 : a = c
      · by_cases h3 : b < d
        · right; left; exact ⟨h1, h2, h3, if_pos (.inr ⟨h2, h3⟩)⟩
        · right; right; left; exact ⟨h1, h2, h3, by omega, if_neg (by simp; omega)⟩
      · right; right; right; exact ⟨h1, h2, by omega, if_neg (by simp; omega)⟩

end Go.Proofs.Ytccggjhnjknblaa
