/-
  Places in texts, on plain numbers: the places one behind the other, and the six numbers of each.
-/
import Derived.Test.YtiakhpfljjfaeaaZCutP

set_option linter.unusedVariables false
namespace Go.Proofs.Ytiakhpfljjfaeaa

/-- the byte of place n -/
def pB (s : ByteArray) : Nat → Nat
  | 0 => 0
  | n + 1 => pB s n + wd s (pB s n)
/-- how many pieces there are -/
def pN (s : ByteArray) : Nat := (allL s).length
/-- a line's end ends with the piece at a byte -/
def pE (s : ByteArray) (i : Nat) : Bool := rn s i == 10 || (rn s i == 13 && !(decide (i + wd s i < s.size) && by_ s (i + wd s i) == 10))
def pW (s : ByteArray) (i : Nat) : Nat := if 65536 ≤ rn s i then 2 else 1
def pU (s : ByteArray) : Nat → Nat
  | 0 => 0
  | n + 1 => pU s n + pW s (pB s n)
def pC (s : ByteArray) : Nat → Nat
  | 0 => 0
  | n + 1 => pC s n + if pB s (n + 1) ∈ brL s then 1 else 0
def pL (s : ByteArray) : Nat → Nat
  | 0 => 1
  | n + 1 => if pE s (pB s n) then pL s n + 1 else pL s n
def pK (s : ByteArray) : Nat → Nat
  | 0 => 1
  | n + 1 => if pE s (pB s n) then 1 else pK s n + 1
/-- a place's number of a unit -/
def pQ (s : ByteArray) (u : Int) (n : Nat) : Nat := if u = 1 then pB s n else if u = 2 then n else if u = 3 then pU s n else pC s n

theorem pB_drop (s : ByteArray) : ∀ n, (allL s).drop n = frm s (pB s n)
  | 0 => rfl
  | n + 1 => by
    rw [← List.drop_drop, pB_drop s n]
    by_cases h : pB s n < s.size
    · rw [frm_step s _ h]; rfl
    · rw [frm_end s _ h, frm_end s (pB s (n + 1)) (by show ¬ pB s n + _ < _; omega)]; rfl
theorem pN_iff (s : ByteArray) (n : Nat) : n < pN s ↔ pB s n < s.size := by
  have h := congrArg List.length (pB_drop s n)
  rw [List.length_drop] at h
  unfold pN
  by_cases hb : pB s n < s.size
  · rw [frm_step s _ hb] at h; simp at h; omega
  · rw [frm_end s _ hb] at h; simp at h; omega
theorem pB_get {s : ByteArray} {n : Nat} (h : n < pN s) : (allL s)[n]? = some (pB s n) := by
  have hb := (pN_iff s n).1 h
  have e := pB_drop s n
  rw [frm_step s _ hb] at e
  have := congrArg List.head? e
  rw [List.head?_drop] at this
  simpa using this
theorem pB_le (s : ByteArray) : ∀ n, n ≤ pN s → pB s n ≤ s.size
  | 0, _ => Nat.zero_le _
  | n + 1, h => (wd_le s _ ((pN_iff s n).1 h)).1
theorem pB_end (s : ByteArray) : pB s (pN s) = s.size := by
  have h1 := pB_le s (pN s) (Nat.le_refl _)
  have h2 := pN_iff s (pN s)
  omega
theorem pB_sync (s : ByteArray) : ∀ n, n ≤ pN s → Sync s (pB s n)
  | 0, _ => sync_zero s
  | n + 1, h => sync_next (pB_sync s n (by omega)) ((pN_iff s n).1 h)
theorem pN_le (s : ByteArray) : pN s ≤ s.size := allL_length s
theorem pB_succ {s : ByteArray} {n : Nat} (h : n < pN s) : pB s n < pB s (n + 1) := by
  have := wd_pos s _ ((pN_iff s n).1 h)
  show _ < pB s n + _
  omega

theorem mono_of {f : Nat → Nat} {N : Nat} (h : ∀ n, n < N → f n ≤ f (n + 1)) {m n : Nat} (hmn : m ≤ n) (hn : n ≤ N) : f m ≤ f n := by
  induction n with
  | zero => rw [show m = 0 by omega]; exact Nat.le_refl _
  | succ n ih =>
    rcases (by omega : m ≤ n ∨ m = n + 1) with h1 | h1
    · exact Nat.le_trans (ih h1 (by omega)) (h n (by omega))
    · rw [h1]; exact Nat.le_refl _
theorem smono_of {f : Nat → Nat} {N : Nat} (h : ∀ n, n < N → f n < f (n + 1)) {m n : Nat} (hmn : m < n) (hn : n ≤ N) : f m < f n :=
  Nat.lt_of_lt_of_le (h m (by omega)) (mono_of (fun k hk => Nat.le_of_lt (h k hk)) (show m + 1 ≤ n by omega) hn)

theorem pW_pos (s : ByteArray) (i : Nat) : 1 ≤ pW s i ∧ pW s i ≤ 2 := by unfold pW; split <;> omega
theorem pQ_succ (s : ByteArray) (u : Int) {n : Nat} (h : n < pN s) : pQ s u n ≤ pQ s u (n + 1) := by
  have h1 := pB_succ h
  have h2 := pW_pos s (pB s n)
  unfold pQ
  split
  · omega
  · split
    · omega
    · split
      · show _ ≤ pU s n + _; omega
      · show _ ≤ pC s n + _; omega
theorem pQ_mono (s : ByteArray) (u : Int) {m n : Nat} (hmn : m ≤ n) (hn : n ≤ pN s) : pQ s u m ≤ pQ s u n := mono_of (f := pQ s u) (fun k hk => pQ_succ s u hk) hmn hn
theorem pU_le (s : ByteArray) : ∀ n, pU s n ≤ 2 * n
  | 0 => Nat.le_refl _
  | n + 1 => by have := pU_le s n; have := pW_pos s (pB s n); show pU s n + _ ≤ _; omega
theorem pC_le (s : ByteArray) : ∀ n, pC s n ≤ n
  | 0 => Nat.le_refl _
  | n + 1 => by have := pC_le s n; show pC s n + _ ≤ _; split <;> omega
theorem pL_le (s : ByteArray) : ∀ n, 1 ≤ pL s n ∧ pL s n ≤ n + 1
  | 0 => by simp [pL]
  | n + 1 => by have := pL_le s n; unfold pL; split <;> omega
theorem pK_le (s : ByteArray) : ∀ n, 1 ≤ pK s n ∧ pK s n ≤ n + 1
  | 0 => by simp [pK]
  | n + 1 => by have := pK_le s n; unfold pK; split <;> omega
theorem pQ_le (s : ByteArray) (u : Int) {n : Nat} (hn : n ≤ pN s) : pQ s u n ≤ 2 * s.size := by
  have h1 := pB_le s n hn
  have h2 := pN_le s
  have h3 := pU_le s n
  have h4 := pC_le s n
  unfold pQ
  repeat' split
  all_goals omega
theorem pQ_zero (s : ByteArray) (u : Int) : pQ s u 0 = 0 := by unfold pQ pB pU pC; simp

/-- a step: the same line and one column more, or the next line's first -/
theorem lk_step (s : ByteArray) (n : Nat) : (pE s (pB s n) = false ∧ pL s (n + 1) = pL s n ∧ pK s (n + 1) = pK s n + 1) ∨ (pE s (pB s n) = true ∧ pL s (n + 1) = pL s n + 1 ∧ pK s (n + 1) = 1) := by
  cases h : pE s (pB s n) with
  | false => exact .inl ⟨rfl, by simp [pL, h], by simp [pK, h]⟩
  | true => exact .inr ⟨rfl, by simp [pL, h], by simp [pK, h]⟩
theorem pL_mono (s : ByteArray) {m n : Nat} (h : m ≤ n) : pL s m ≤ pL s n :=
  mono_of (N := n) (fun k _ => by rcases lk_step s k with ⟨_, h, _⟩ | ⟨_, h, _⟩ <;> omega) h (Nat.le_refl _)
/-- on one line columns count the places -/
theorem pK_same (s : ByteArray) {m n : Nat} (h : m ≤ n) (hl : pL s m = pL s n) : pK s n = pK s m + (n - m) := by
  induction n with
  | zero => rw [show m = 0 by omega]; omega
  | succ n ih =>
    rcases (by omega : m = n + 1 ∨ m ≤ n) with h1 | h1
    · rw [h1]; omega
    · have h2 := pL_mono s h1
      rcases lk_step s n with ⟨_, h3, h4⟩ | ⟨_, h3, _⟩
      · have := ih h1 (by omega); omega
      · omega
theorem lk_lt (s : ByteArray) {m n : Nat} (h : m < n) : pL s m < pL s n ∨ (pL s m = pL s n ∧ pK s m < pK s n) := by
  have h1 := pL_mono s (Nat.le_of_lt h)
  by_cases h2 : pL s m = pL s n
  · exact .inr ⟨h2, by have := pK_same s (Nat.le_of_lt h) h2; omega⟩
  · exact .inl (by omega)
theorem lk_inj (s : ByteArray) {m n : Nat} (h1 : pL s m = pL s n) (h2 : pK s m = pK s n) : m = n := by
  rcases Nat.lt_trichotomy m n with h | h | h
  · have := lk_lt s h; omega
  · exact h
  · have := lk_lt s h; omega
/-- where a line begins -/
theorem line_first (s : ByteArray) (n : Nat) : ∃ a, a ≤ n ∧ pL s a = pL s n ∧ pK s a = 1 ∧ (∀ i, i < a → pL s i < pL s n) ∧ n = a + (pK s n - 1) := by
  induction n with
  | zero => exact ⟨0, Nat.le_refl _, rfl, rfl, fun i h => by omega, rfl⟩
  | succ n ih =>
    obtain ⟨a, h1, h2, h3, h4, h5⟩ := ih
    have hk := pK_le s n
    rcases lk_step s n with ⟨_, h6, h7⟩ | ⟨_, h6, h7⟩
    · exact ⟨a, by omega, by omega, h3, fun i hi => by have := h4 i hi; omega, by omega⟩
    · exact ⟨n + 1, Nat.le_refl _, rfl, h7, fun i hi => by have := pL_mono s (show i ≤ n by omega); omega, by omega⟩
/-- each number up to the last line's is some place's line -/
theorem line_ex (s : ByteArray) : ∀ (n l : Nat), 1 ≤ l → l ≤ pL s n → ∃ i, i ≤ n ∧ pL s i = l
  | 0, l, h1, h2 => ⟨0, Nat.le_refl _, by have := (pL_le s 0).2; have := (pL_le s 0).1; omega⟩
  | n + 1, l, h1, h2 => by
    by_cases h : l ≤ pL s n
    · obtain ⟨i, hi, e⟩ := line_ex s n l h1 h; exact ⟨i, by omega, e⟩
    · rcases lk_step s n with ⟨_, h3, _⟩ | ⟨_, h3, _⟩
      · omega
      · exact ⟨n + 1, Nat.le_refl _, by omega⟩

/-- the place between the two of one line's end -/
def pI (s : ByteArray) (x : Nat) : Bool := decide (0 < x) && by_ s (x - 1) == 13 && (decide (x < s.size) && by_ s x == 10)

/-- the byte ahead of a place and the piece ahead of it -/
theorem by_before {s : ByteArray} {n : Nat} (h : n < pN s) {b : Nat} (hb : b ≤ 127) : by_ s (pB s (n + 1) - 1) = b ↔ rn s (pB s n) = b := by
  have hlt := (pN_iff s n).1 h
  have hw := wd_pos s _ hlt
  have hle := (wd_le s _ hlt).1
  have e : pB s (n + 1) = pB s n + wd s (pB s n) := rfl
  constructor
  · intro h1
    have hsy := ascii_sync (t := s) (k := pB s (n + 1) - 1) (by omega) (by omega)
    have h1w : wd s (pB s n) = 1 := by
      cases ho : okR s (pB s n) with
      | false => exact (ok_false_iff ho).2
      | true =>
        rcases (by omega : wd s (pB s n) = 1 ∨ pB s n < pB s (n + 1) - 1) with h2 | h2
        · exact h2
        · have := hsy _ h2 ho; omega
    rw [show pB s (n + 1) - 1 = pB s n by omega] at h1
    rw [(ascii_dec (by omega)).1]; exact h1
  · intro h1
    obtain ⟨h2, h3⟩ := small_rune hlt (by omega)
    rw [show pB s (n + 1) - 1 = pB s n by omega]; omega
theorem by_here {s : ByteArray} {n : Nat} (h : n < pN s) {b : Nat} (hb : b ≤ 127) : by_ s (pB s n) = b ↔ rn s (pB s n) = b := by
  have hlt := (pN_iff s n).1 h
  constructor
  · intro h1; rw [(ascii_dec (by omega)).1]; exact h1
  · intro h1; rw [(small_rune hlt (by omega)).1]; exact h1

theorem pE_iff {s : ByteArray} {n : Nat} (h : n < pN s) : pE s (pB s n) = true ↔ rn s (pB s n) = 10 ∨ (rn s (pB s n) = 13 ∧ ¬ (n + 1 < pN s ∧ rn s (pB s (n + 1)) = 10)) := by
  unfold pE
  have e : pB s n + wd s (pB s n) = pB s (n + 1) := rfl
  rw [e]
  simp only [Bool.or_eq_true, beq_iff_eq, Bool.and_eq_true, Bool.not_eq_true', Bool.and_eq_false_iff, decide_eq_false_iff_not]
  have h1 := pN_iff s (n + 1)
  constructor
  · rintro (h2 | ⟨h2, h3⟩)
    · exact .inl h2
    · refine .inr ⟨h2, fun ⟨h4, h5⟩ => ?_⟩
      rcases h3 with h3 | h3
      · omega
      · have := (by_here h4 (show 10 ≤ 127 by omega)).2 h5
        simp [this] at h3
  · rintro (h2 | ⟨h2, h3⟩)
    · exact .inl h2
    · refine .inr ⟨h2, ?_⟩
      by_cases h4 : n + 1 < pN s
      · refine .inr ?_
        have : ¬ by_ s (pB s (n + 1)) = 10 := fun h5 => h3 ⟨h4, (by_here h4 (by omega)).1 h5⟩
        simp [this]
      · exact .inl (by omega)
theorem pI_iff {s : ByteArray} {n : Nat} (h : n ≤ pN s) : pI s (pB s n) = true ↔ ∃ m, n = m + 1 ∧ n < pN s ∧ rn s (pB s m) = 13 ∧ rn s (pB s n) = 10 := by
  unfold pI
  simp only [Bool.and_eq_true, decide_eq_true_eq, beq_iff_eq]
  constructor
  · rintro ⟨⟨h1, h2⟩, h3, h4⟩
    have h5 := (pN_iff s n).2 h3
    cases n with
    | zero => simp [pB] at h1
    | succ m => exact ⟨m, rfl, h5, (by_before (by omega) (by omega)).1 h2, (by_here h5 (by omega)).1 h4⟩
  · rintro ⟨m, rfl, h5, h2, h4⟩
    have := pB_succ (s := s) (n := m) (by omega)
    exact ⟨⟨by omega, (by_before (by omega) (by omega)).2 h2⟩, (pN_iff s _).1 h5, (by_here h5 (by omega)).2 h4⟩
/-- a place between CR and LF is its line's last -/
theorem pI_last {s : ByteArray} {n : Nat} (h : n ≤ pN s) (hi : pI s (pB s n) = true) : n < pN s ∧ pE s (pB s n) = true ∧ ∃ m, n = m + 1 ∧ pE s (pB s m) = false := by
  obtain ⟨m, rfl, h1, h2, h3⟩ := (pI_iff h).1 hi
  refine ⟨h1, (pE_iff h1).2 (.inl h3), m, rfl, ?_⟩
  cases he : pE s (pB s m) with
  | false => rfl
  | true =>
    rcases (pE_iff (show m < pN s by omega)).1 he with h4 | ⟨_, h4⟩
    · omega
    · exact absurd ⟨h1, h3⟩ h4

end Go.Proofs.Ytiakhpfljjfaeaa

/-
  What is answered of places, on plain numbers: the first place of which something holds; numbers of units, lines, columns.
-/
set_option linter.unusedVariables false
namespace Go.Proofs.Ytiakhpfljjfaeaa

/-- the first of N numbers, from i on, of which p holds -/
def fstP (p : Nat → Bool) : Nat → Nat → Nat
  | 0, i => i
  | f + 1, i => if p i then i else fstP p f (i + 1)
def fpl (p : Nat → Bool) (N : Nat) : Nat := fstP p N 0

theorem fstP_spec (p : Nat → Bool) : ∀ (f i : Nat), i ≤ fstP p f i ∧ fstP p f i ≤ i + f ∧ (∀ j, i ≤ j → j < fstP p f i → p j = false) ∧ (fstP p f i < i + f → p (fstP p f i) = true)
  | 0, i => ⟨Nat.le_refl _, Nat.le_refl _, fun j h1 h2 => by simp only [fstP] at h2; omega, fun h => by simp only [fstP] at h; omega⟩
  | f + 1, i => by
    cases h : p i with
    | true => simp only [fstP, h, if_true]; exact ⟨Nat.le_refl _, by omega, fun j h1 h2 => by omega, fun _ => trivial⟩
    | false =>
      simp only [fstP, h, if_false, Bool.false_eq_true]
      obtain ⟨h1, h2, h3, h4⟩ := fstP_spec p f (i + 1)
      refine ⟨by omega, by omega, fun j a b => ?_, fun a => h4 (by omega)⟩
      by_cases e : j = i
      · rw [e]; exact h
      · exact h3 j (by omega) b
theorem fpl_le (p : Nat → Bool) (N : Nat) : fpl p N ≤ N := by have := (fstP_spec p N 0).2.1; unfold fpl; omega
theorem fpl_no (p : Nat → Bool) (N : Nat) {j : Nat} (h : j < fpl p N) : p j = false := (fstP_spec p N 0).2.2.1 j (Nat.zero_le _) h
theorem fpl_yes (p : Nat → Bool) (N : Nat) (h : fpl p N < N) : p (fpl p N) = true := (fstP_spec p N 0).2.2.2 (by unfold fpl at h; omega)
theorem fpl_eq {p : Nat → Bool} {N k : Nat} (hk : k < N) (h1 : ∀ j, j < k → p j = false) (h2 : p k = true) : fpl p N = k := by
  rcases Nat.lt_trichotomy (fpl p N) k with h | h | h
  · have := fpl_yes p N (by omega); rw [h1 _ h] at this; cases this
  · exact h
  · have := fpl_no p N h; rw [h2] at this; cases this
theorem fpl_none {p : Nat → Bool} {N : Nat} (h : ∀ j, j < N → p j = false) : fpl p N = N := by
  rcases Nat.lt_or_ge (fpl p N) N with h1 | h1
  · have := fpl_yes p N h1; rw [h _ h1] at this; cases this
  · have := fpl_le p N; omega

/-! numbers of units -/
def atK (s : ByteArray) (u n : Int) : Nat := fpl (fun i => decide (n ≤ (pQ s u i : Nat))) (pN s + 1)
theorem atK_le {s : ByteArray} {u n : Int} (h : n ≤ (pQ s u (pN s) : Nat)) : atK s u n ≤ pN s := by
  rcases Nat.lt_or_ge (pN s) (atK s u n) with h1 | h1
  · have := fpl_no (fun i => decide (n ≤ (pQ s u i : Nat))) (pN s + 1) h1
    simp at this; omega
  · exact h1
theorem atK_up {s : ByteArray} {u n : Int} {i : Nat} (h : atK s u n ≤ i) (hi : i ≤ pN s) : n ≤ (pQ s u i : Nat) := by
  have h1 := fpl_yes (fun i => decide (n ≤ (pQ s u i : Nat))) (pN s + 1) (show atK s u n < _ by omega)
  simp at h1
  have := pQ_mono s u h hi
  change n ≤ (pQ s u (atK s u n) : Nat) at h1
  omega
theorem atK_low {s : ByteArray} {u n : Int} {i : Nat} (h : i < atK s u n) : (pQ s u i : Int) < n := by
  have := fpl_no (fun i => decide (n ≤ (pQ s u i : Nat))) (pN s + 1) h
  simp at this; omega
/-- the first place with just that number -/
theorem atK_eq {s : ByteArray} {u n : Int} {k : Nat} (hk : k ≤ pN s) (he : (pQ s u k : Int) = n) (h1 : ∀ j, j < k → ¬ (pQ s u j : Int) = n) : atK s u n = k := by
  refine fpl_eq (by omega) (fun j hj => ?_) (by simp; omega)
  have := pQ_mono s u (Nat.le_of_lt hj) hk
  have := h1 j hj
  simp; omega

/-! lines -/
def lineK (s : ByteArray) (n : Int) : Nat := fpl (fun i => decide (n ≤ (pL s i : Nat))) (pN s + 1)
def lineB (s : ByteArray) (n : Int) : Nat := if lineK s n ≤ pN s then pB s (lineK s n) else s.size
theorem lineK_le1 (s : ByteArray) (n : Int) : lineK s n ≤ pN s + 1 := fpl_le _ _
theorem lineK_le {s : ByteArray} {n : Int} (h : n ≤ (pL s (pN s) : Nat)) : lineK s n ≤ pN s := by
  rcases Nat.lt_or_ge (pN s) (lineK s n) with h1 | h1
  · have := fpl_no (fun i => decide (n ≤ (pL s i : Nat))) (pN s + 1) h1
    simp at this; omega
  · exact h1
theorem lineK_up {s : ByteArray} {n : Int} {i : Nat} (h : lineK s n ≤ i) (hi : i ≤ pN s) : n ≤ (pL s i : Nat) := by
  have h1 := fpl_yes (fun i => decide (n ≤ (pL s i : Nat))) (pN s + 1) (show lineK s n < _ by omega)
  simp at h1
  have := pL_mono s h
  change n ≤ (pL s (lineK s n) : Nat) at h1
  omega
theorem lineK_low {s : ByteArray} {n : Int} {i : Nat} (h : i < lineK s n) : (pL s i : Int) < n := by
  have := fpl_no (fun i => decide (n ≤ (pL s i : Nat))) (pN s + 1) h
  simp at this; omega
theorem lineK_mono {s : ByteArray} {m n : Int} (h : m ≤ n) : lineK s m ≤ lineK s n := by
  rcases Nat.lt_or_ge (lineK s n) (lineK s m) with h1 | h1
  · have h2 := lineK_low h1
    have h3 := lineK_le1 s m
    have := lineK_up (s := s) (n := n) (Nat.le_refl _) (by omega)
    omega
  · exact h1
theorem lineB_le (s : ByteArray) (n : Int) : lineB s n ≤ s.size := by
  unfold lineB
  split
  · exact pB_le s _ (by assumption)
  · exact Nat.le_refl _
theorem pB_mono (s : ByteArray) {m n : Nat} (hmn : m ≤ n) (hn : n ≤ pN s) : pB s m ≤ pB s n := mono_of (f := pB s) (fun k hk => Nat.le_of_lt (pB_succ hk)) hmn hn
theorem pB_inj {s : ByteArray} {m n : Nat} (hm : m ≤ pN s) (hn : n ≤ pN s) (h : pB s m = pB s n) : m = n := by
  rcases Nat.lt_trichotomy m n with h1 | h1 | h1
  · have := smono_of (f := pB s) (fun k hk => pB_succ hk) h1 hn; omega
  · exact h1
  · have := smono_of (f := pB s) (fun k hk => pB_succ hk) h1 hm; omega
theorem lineB_mono {s : ByteArray} {m n : Int} (h : m ≤ n) : lineB s m ≤ lineB s n := by
  have h1 := lineK_mono (s := s) h
  unfold lineB
  by_cases h2 : lineK s n ≤ pN s
  · rw [if_pos h2, if_pos (by omega)]; exact pB_mono s h1 h2
  · rw [if_neg h2]
    split
    · exact pB_le s _ (by assumption)
    · exact Nat.le_refl _
/-- the line that begins there is that one -/
theorem lineK_is {s : ByteArray} {n : Int} (h1 : 1 ≤ n) (h2 : n ≤ (pL s (pN s) : Nat)) : (pL s (lineK s n) : Int) = n ∧ pK s (lineK s n) = 1 := by
  obtain ⟨i, hi, e⟩ := line_ex s (pN s) n.toNat (by omega) (by omega)
  have hk := lineK_le h2
  have h3 := lineK_up (s := s) (n := n) (Nat.le_refl _) hk
  have h4 : lineK s n ≤ i := by
    rcases Nat.lt_or_ge i (lineK s n) with h | h
    · have := lineK_low h; omega
    · exact h
  have h5 := pL_mono s h4
  have h6 : (pL s (lineK s n) : Int) = n := by omega
  refine ⟨h6, ?_⟩
  obtain ⟨a, ha, hl, hk1, hlt, _⟩ := line_first s (lineK s n)
  rcases (by omega : a = lineK s n ∨ a < lineK s n) with e1 | e1
  · rw [← e1]; exact hk1
  · have := lineK_low e1; omega

/-! columns -/
def cellP (s : ByteArray) (l c : Int) (i : Nat) : Bool := decide (l < (pL s i : Nat)) || (decide ((pL s i : Nat) = l) && decide (c ≤ (pK s i : Nat)))
def cellK (s : ByteArray) (l c : Int) : Nat := fpl (cellP s l c) (pN s + 1)
def cellOK (s : ByteArray) (l c : Int) : Bool := decide (cellK s l c ≤ pN s) && (decide ((pL s (cellK s l c) : Nat) = l) && (decide ((pK s (cellK s l c) : Nat) = c) && !pI s (pB s (cellK s l c))))
theorem cellP_up {s : ByteArray} {l c : Int} {i j : Nat} (h : i ≤ j) (hp : cellP s l c i = true) : cellP s l c j = true := by
  unfold cellP at *
  simp only [Bool.or_eq_true, Bool.and_eq_true, decide_eq_true_eq] at *
  rcases (by omega : i = j ∨ i < j) with e | e
  · rw [← e]; exact hp
  · have := lk_lt s e
    omega
theorem cellK_no {s : ByteArray} {l c : Int} {j : Nat} (h : j < cellK s l c) : cellP s l c j = false := fpl_no _ _ h
theorem cellK_yes {s : ByteArray} {l c : Int} {j : Nat} (h : cellK s l c ≤ j) (hj : j < pN s + 1) : cellP s l c j = true :=
  cellP_up h (fpl_yes (cellP s l c) (pN s + 1) (show cellK s l c < _ by omega))
/-- the place of a line and a column, if there is one -/
theorem cellK_eq {s : ByteArray} {l c : Int} {k : Nat} (hk : k ≤ pN s) (h1 : (pL s k : Int) = l) (h2 : (pK s k : Int) = c) : cellK s l c = k := by
  refine fpl_eq (by omega) (fun j hj => ?_) ?_
  · have := lk_lt s hj
    unfold cellP
    rw [decide_eq_false (by omega), Bool.false_or, Bool.and_eq_false_iff]
    by_cases e : (pL s j : Int) = l
    · exact .inr (decide_eq_false (by omega))
    · exact .inl (decide_eq_false e)
  · unfold cellP
    rw [decide_eq_true h1, decide_eq_true (show c ≤ (pK s k : Nat) by omega)]; simp
theorem cellOK_at {s : ByteArray} {l c : Int} {k : Nat} (hk : k ≤ pN s) (h1 : (pL s k : Int) = l) (h2 : (pK s k : Int) = c) : cellOK s l c = !pI s (pB s k) := by
  unfold cellOK
  rw [cellK_eq hk h1 h2, decide_eq_true hk, decide_eq_true h1, decide_eq_true h2]; rfl
theorem cellOK_none {s : ByteArray} {l c : Int} (h : ∀ k, k ≤ pN s → (pL s k : Int) = l → ¬ (pK s k : Int) = c) : cellOK s l c = false := by
  cases hc : cellOK s l c with
  | false => rfl
  | true =>
    unfold cellOK at hc
    simp only [Bool.and_eq_true, decide_eq_true_eq] at hc
    exact absurd hc.2.2.1 (h _ hc.1 hc.2.1)

end Go.Proofs.Ytiakhpfljjfaeaa

/-
  How a clump's pieces stand among the places of a text, on plain numbers.
-/
set_option linter.unusedVariables false
namespace Go.Proofs.Ytiakhpfljjfaeaa

/-- no break lies within a clump -/
theorem cp_between {s : ByteArray} {pre rest : List (Nat × Nat)} {c : Nat × Nat} (h : pre ++ c :: rest = cpL s) : ∀ q ∈ brL s, q ≤ c.1 ∨ c.2 ≤ q := by
  obtain ⟨l1, l2, hl, _⟩ := pairs_split (brL s) pre c rest (show pairs (brL s) = _ from h.symm)
  have hs := brL_sorted s
  rw [hl] at hs ⊢
  intro q hq
  rw [List.pairwise_append] at hs
  obtain ⟨_, h2, h3⟩ := hs
  rcases List.mem_append.1 hq with h4 | h4
  · exact .inl (Nat.le_of_lt (h3 q h4 c.1 (by simp)))
  · rcases List.mem_cons.1 h4 with h5 | h5
    · exact .inl (by omega)
    · rcases List.mem_cons.1 h5 with h6 | h6
      · exact .inr (by omega)
      · have h7 := (List.pairwise_cons.1 (List.pairwise_cons.1 h2).2).1 q h6
        exact .inr (Nat.le_of_lt h7)

/-- a piece of a part that begins at a place is a piece of the text -/
theorem part_at {s : ByteArray} {a b n0 j i : Nat} (ha : pB s n0 = a) (hb : Sync s b) (hbs : b ≤ s.size) (hab : a ≤ b) (hj : (allL (s.extract a b))[j]? = some i) :
    n0 + j < pN s ∧ pB s (n0 + j) = a + i ∧ a + i < b ∧ rn (s.extract a b) i = rn s (a + i) ∧ wd (s.extract a b) i = wd s (a + i) ∧ a + i + wd s (a + i) ≤ b := by
  have h1 := pB_drop s n0
  rw [ha, allL_ext hb hbs hab] at h1
  have hjl := (List.getElem?_eq_some_iff.1 hj).1
  have h2 : (allL s)[n0 + j]? = some (a + i) := by
    rw [← List.getElem?_drop, h1, List.getElem?_append_left (by simpa using hjl), List.getElem?_map, hj]; rfl
  have h3 : n0 + j < pN s := (List.getElem?_eq_some_iff.1 h2).1
  have h4 := pB_get h3
  rw [h2] at h4
  have him : i ∈ allL (s.extract a b) := List.mem_of_getElem? hj
  have hlt := (mem_allL.1 him).1
  rw [size_ext s a b hbs] at hlt
  have hd := dec_ext (s := s) (e := b) a i hb hbs (by omega)
  refine ⟨h3, by simpa using h4.symm, by omega, rn_same hd, wd_same hd, ?_⟩
  have h5 := (wd_le (s.extract a b) i (by rw [size_ext s a b hbs]; omega)).1
  rw [size_ext s a b hbs, wd_same hd] at h5
  omega
/-- behind all pieces of a part -/
theorem part_end {s : ByteArray} {a b n0 : Nat} (ha : pB s n0 = a) (hn0 : n0 ≤ pN s) (hb : Sync s b) (hbs : b ≤ s.size) (hab : a ≤ b) : n0 + (allL (s.extract a b)).length ≤ pN s ∧ pB s (n0 + (allL (s.extract a b)).length) = b := by
  have h1 := pB_drop s n0
  rw [ha, allL_ext hb hbs hab] at h1
  have h2 : (allL s).length - n0 = (allL (s.extract a b)).length + (frm s b).length := by
    have := congrArg List.length h1
    simpa using this
  have h3 : n0 + (allL (s.extract a b)).length ≤ pN s := by unfold pN at *; omega
  refine ⟨h3, ?_⟩
  have h4 := pB_drop s (n0 + (allL (s.extract a b)).length)
  rw [← List.drop_drop, h1, List.drop_append_of_le_length (by simp), List.drop_of_length_le (by simp), List.nil_append] at h4
  have h5 := pB_le s _ h3
  by_cases h6 : b < s.size
  · rw [frm_step s b h6] at h4
    by_cases h7 : pB s (n0 + (allL (s.extract a b)).length) < s.size
    · rw [frm_step s _ h7] at h4
      exact (List.cons.inj h4).1.symm
    · rw [frm_end s _ h7] at h4; cases h4
  · rw [frm_end s b h6] at h4
    by_cases h7 : pB s (n0 + (allL (s.extract a b)).length) < s.size
    · rw [frm_step s _ h7] at h4; cases h4
    · omega

/-- a clump ends with a piece just where the next place is a break -/
theorem clump_ends {s : ByteArray} {pre rest : List (Nat × Nat)} {a b n0 j i : Nat} (h : pre ++ (a, b) :: rest = cpL s) (ha : pB s n0 = a) (hj : (allL (s.extract a b))[j]? = some i) :
    pC s (n0 + j + 1) = pC s (n0 + j) + if i + wd (s.extract a b) i = b - a then 1 else 0 := by
  obtain ⟨_, hlt, hle, _, hbr⟩ := cp_at h
  dsimp only at hlt hle hbr
  obtain ⟨h1, h2, h3, h4, h5, h6⟩ := part_at ha (brL_sync hbr) hle (by omega) hj
  have e : pB s (n0 + j + 1) = a + i + wd s (a + i) := by show pB s (n0 + j) + wd s (pB s (n0 + j)) = _; rw [h2]
  have hw := wd_pos s (a + i) (by omega)
  have hp : pC s (n0 + j + 1) = pC s (n0 + j) + (if pB s (n0 + j + 1) ∈ brL s then 1 else 0) := by rw [pC]
  by_cases hc : i + wd (s.extract a b) i = b - a
  · have hm : pB s (n0 + j + 1) ∈ brL s := by
      rw [e, ← h5, show a + i + wd (s.extract a b) i = b by omega]
      exact hbr
    rw [hp, if_pos hc, if_pos hm]
  · have hm : ¬ pB s (n0 + j + 1) ∈ brL s := by
      intro hm
      rw [e] at hm
      have := cp_between h _ hm
      dsimp only at this
      rw [h5] at hc
      omega
    rw [hp, if_neg hc, if_neg hm]

/-- the rows behind the beginning -/
def spR (s : ByteArray) (n : Nat) : List (List Nat) := (List.range n).map fun i => [pB s (i + 1), i + 1, pU s (i + 1), pC s (i + 1), pL s (i + 1), pK s (i + 1)]
theorem pU_le1 (s : ByteArray) : ∀ n, n ≤ pN s → pU s n ≤ pB s n
  | 0, _ => Nat.le_refl _
  | n + 1, h => by
    have h1 := pU_le1 s n (by omega)
    have hlt := (pN_iff s n).1 h
    have h2 := wd_pos s _ hlt
    have h3 : pW s (pB s n) ≤ wd s (pB s n) := by
      unfold pW
      split
      · next hr =>
        have : ¬ wd s (pB s n) = 1 := by
          intro h1w
          rcases ok_cases s _ hlt (by
            cases ho : okR s (pB s n) with
            | true => rfl
            | false => have := (ok_false_iff ho).1; omega) with h | h | h | h
          all_goals first | (obtain ⟨_, h, _⟩ := h; have := by_lt s (pB s n); simp_all <;> omega) | simp_all
        omega
      · omega
    show pU s n + _ ≤ pB s n + _
    omega

theorem suf_ext (s : ByteArray) (x : Nat) (hx : x ≤ s.size) : (decide (0 < (s.extract 0 x).size) && by_ (s.extract 0 x) ((s.extract 0 x).size - 1) == (13 : UInt8).toNat) = (decide (0 < x) && by_ s (x - 1) == 13) := by
  rw [size_ext s 0 x hx, Nat.sub_zero]
  by_cases h : 0 < x
  · rw [by_ext s 0 x (x - 1) hx (by omega), Nat.zero_add]; rfl
  · rw [decide_eq_false h]; rfl
theorem pre_ext (s : ByteArray) (x : Nat) (hx : x ≤ s.size) : (decide (0 < (s.extract x s.size).size) && by_ (s.extract x s.size) 0 == (10 : UInt8).toNat) = (decide (x < s.size) && by_ s x == 10) := by
  rw [size_ext s x s.size (Nat.le_refl _)]
  by_cases h : x < s.size
  · rw [by_ext s x s.size 0 (Nat.le_refl _) (by omega), Nat.add_zero, decide_eq_true h, decide_eq_true (by omega)]; rfl
  · rw [decide_eq_false h, decide_eq_false (by omega)]; rfl


end Go.Proofs.Ytiakhpfljjfaeaa
