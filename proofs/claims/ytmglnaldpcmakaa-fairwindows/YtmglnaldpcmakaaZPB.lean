/-
  Pure: arrivals, pairs, and how the windows are found one by one.
-/
import Derived.Test.YtmglnaldpcmakaaZPA
set_option linter.unusedSimpArgs false
set_option linter.unusedVariables false
namespace Go.Proofs.Ytmglnaldpcmakaa
open Go.RowKit Go.Lib

structure Arr where
  first : Int
  last : Int
  pair : Nat

/-- how many of N pairs are missing -/
def cntB (N : Nat) (M : Nat → Bool) : Nat := (List.range N).countP M
def rmv (M : Nat → Bool) (p : Nat) : Nat → Bool := fun q => M q && !decide (q = p)
theorem countP_rmv (M : Nat → Bool) (p : Nat) : ∀ (N : Nat), (List.range N).countP (rmv M p) = (List.range N).countP M - (if M p = true ∧ p < N then 1 else 0)
  | 0 => by simp
  | N + 1 => by
    rw [List.range_succ, List.countP_append, List.countP_append, countP_rmv M p N]
    have hpos : M p = true ∧ p < N → 1 ≤ (List.range N).countP M := fun h => List.countP_pos_iff.2 ⟨p, List.mem_range.2 h.2, h.1⟩
    by_cases e : N = p
    · subst e
      cases hm : M N <;> simp [rmv, hm]
    · have : (if M p = true ∧ p < N + 1 then 1 else 0) = (if M p = true ∧ p < N then 1 else 0) := by
        have hq : p < N + 1 ↔ p < N := by omega
        simp only [hq]
      rw [this]
      cases hm : M p
      · simp [rmv, e]
      · by_cases hl : p < N
        · have := hpos ⟨hm, hl⟩
          simp only [hl, and_self, if_true, rmv, List.countP_singleton, e, decide_false, Bool.not_false, Bool.and_true]
          split <;> omega
        · simp [hl, rmv, e]
theorem cnt_rmv (N : Nat) (M : Nat → Bool) (p : Nat) : cntB N (rmv M p) = cntB N M - (if M p = true ∧ p < N then 1 else 0) := countP_rmv M p N
theorem cnt_all (N : Nat) : cntB N (fun _ => true) = N := by
  unfold cntB
  rw [List.countP_eq_length.2 (fun _ _ => rfl), List.length_range]
theorem cnt_zero_iff (N : Nat) (M : Nat → Bool) : cntB N M = 0 ↔ ∀ p, p < N → M p = false := by
  unfold cntB
  rw [List.countP_eq_zero]
  constructor
  · intro h p hp; have := h p (List.mem_range.2 hp); simpa using this
  · intro h p hp; have := h p (List.mem_range.1 hp); simp [this]
theorem cnt_le_N (N : Nat) (M : Nat → Bool) : cntB N M ≤ N := by
  have := List.countP_le_length (p := M) (l := List.range N)
  rwa [List.length_range] at this

/-- the arrivals gone through until no pair is missing: the step of the last one, and what is behind it -/
def scan (N : Nat) (f : Int) : (Nat → Bool) → List Arr → Option (Int × List Arr)
  | _, [] => none
  | M, x :: r => if x.first < f then scan N f M r else if cntB N (rmv M x.pair) = 0 then some (x.last, r) else scan N f (rmv M x.pair) r

theorem scan_few (N : Nat) (f : Int) : ∀ (l : List Arr) (M : Nat → Bool), l.length < cntB N M → scan N f M l = none
  | [], _, _ => rfl
  | x :: r, M, h => by
    unfold scan
    simp only [List.length_cons] at h
    split
    · exact scan_few N f r M (by omega)
    · have := cnt_rmv N M x.pair
      rw [if_neg (by split at this <;> omega)]
      exact scan_few N f r _ (by split at this <;> omega)
theorem scan_some (N : Nat) (f : Int) : ∀ (l : List Arr) (M : Nat → Bool) (e : Int) (r : List Arr), scan N f M l = some (e, r) → 0 < cntB N M →
    ∃ pre x, l = pre ++ x :: r ∧ x.last = e ∧ f ≤ x.first ∧ (∀ p, p < N → M p = true → ∃ y, (y ∈ pre ∨ y = x) ∧ y.pair = p ∧ f ≤ y.first) ∧ (M x.pair = true ∧ x.pair < N) ∧ (∀ y ∈ pre, y.pair = x.pair → y.first < f)
  | [], M, e, r, h, _ => by simp [scan] at h
  | z :: l, M, e, r, h, h0 => by
    unfold scan at h
    split at h
    · rename_i hz
      obtain ⟨pre, x, rfl, h1, h2, h3, h4, h5⟩ := scan_some N f l M e r h h0
      exact ⟨z :: pre, x, rfl, h1, h2, fun p hp hm => by obtain ⟨y, hy, q⟩ := h3 p hp hm; exact ⟨y, hy.imp (List.mem_cons_of_mem _) id, q⟩, h4, fun y hy he => by
        rcases List.mem_cons.1 hy with rfl | hy
        · exact hz
        · exact h5 y hy he⟩
    · rename_i hz
      have hc := cnt_rmv N M z.pair
      split at h
      · rename_i hz0
        simp at h
        obtain ⟨rfl, rfl⟩ := h
        have hin : M z.pair = true ∧ z.pair < N := by
          by_cases hh : M z.pair = true ∧ z.pair < N
          · exact hh
          · rw [if_neg hh] at hc; omega
        refine ⟨[], z, rfl, rfl, by omega, fun p hp hm => ?_, hin, fun y hy => by simp at hy⟩
        have := (cnt_zero_iff N _).1 hz0 p hp
        simp only [rmv, hm, Bool.true_and, Bool.not_eq_false', decide_eq_true_eq] at this
        exact ⟨z, .inr rfl, this.symm, by omega⟩
      · rename_i hz0
        obtain ⟨pre, x, rfl, h1, h2, h3, h4, h5⟩ := scan_some N f l _ e r h (by omega)
        have hm4 := h4.1
        simp only [rmv, Bool.and_eq_true, Bool.not_eq_true', decide_eq_false_iff_not] at hm4
        refine ⟨z :: pre, x, rfl, h1, h2, fun p hp hm => ?_, ⟨hm4.1, h4.2⟩, fun y hy he => ?_⟩
        · by_cases e : p = z.pair
          · exact ⟨z, .inl (List.mem_cons_self), e.symm, by omega⟩
          · obtain ⟨y, hy, q⟩ := h3 p hp (by simp [rmv, hm, e])
            exact ⟨y, hy.imp (List.mem_cons_of_mem _) id, q⟩
        · rcases List.mem_cons.1 hy with rfl | hy
          · exact absurd he.symm hm4.2
          · exact h5 y hy he
theorem scan_none (N : Nat) (f : Int) : ∀ (l : List Arr) (M : Nat → Bool), scan N f M l = none → 0 < cntB N M → ∃ p, p < N ∧ M p = true ∧ ∀ y ∈ l, y.pair = p → y.first < f
  | [], M, _, h0 => by
    by_cases h : ∀ p, p < N → M p = false
    · have := (cnt_zero_iff N M).2 h; omega
    · simp only [Classical.not_forall] at h
      obtain ⟨p, hp, hm⟩ := h
      exact ⟨p, hp, by simpa using hm, fun y hy => by simp at hy⟩
  | z :: l, M, h, h0 => by
    unfold scan at h
    split at h
    · rename_i hz
      obtain ⟨p, h1, h2, h3⟩ := scan_none N f l M h h0
      exact ⟨p, h1, h2, fun y hy he => by
        rcases List.mem_cons.1 hy with rfl | hy
        · exact hz
        · exact h3 y hy he⟩
    · split at h
      · simp at h
      · rename_i hz0
        obtain ⟨p, h1, h2, h3⟩ := scan_none N f l _ h (by omega)
        simp only [rmv, Bool.and_eq_true, Bool.not_eq_true', decide_eq_false_iff_not] at h2
        exact ⟨p, h1, h2.1, fun y hy he => by
          rcases List.mem_cons.1 hy with rfl | hy
          · exact absurd he.symm h2.2
          · exact h3 y hy he⟩

/-- the windows that the arrivals make from a step on -/
def IsP (N : Nat) : Int → List Arr → List (Int × Int) → Prop
  | f, rest, [] => scan N f (fun _ => true) rest = none
  | f, rest, w :: l => w.1 = f ∧ ∃ r, scan N f (fun _ => true) rest = some (w.2 - 1, r) ∧ IsP N w.2 r l
theorem scan_short (N : Nat) (f : Int) : ∀ (l : List Arr) (M : Nat → Bool) (e : Int) (r : List Arr), scan N f M l = some (e, r) → r.length < l.length
  | [], M, e, r, h => by simp [scan] at h
  | z :: l, M, e, r, h => by
    unfold scan at h
    split at h
    · have := scan_short N f l _ e r h; simp; omega
    · split at h
      · simp at h; obtain ⟨_, rfl⟩ := h; simp
      · have := scan_short N f l _ e r h; simp; omega
theorem isP_ex (N : Nat) : ∀ (n : Nat) (f : Int) (rest : List Arr), rest.length ≤ n → ∃ l, IsP N f rest l ∧ l.length ≤ rest.length
  | 0, f, rest, h => by
    obtain rfl : rest = [] := List.eq_nil_of_length_eq_zero (by omega)
    exact ⟨[], rfl, Nat.le_refl _⟩
  | n + 1, f, rest, h => by
    cases hs : scan N f (fun _ => true) rest with
    | none => exact ⟨[], hs, Nat.zero_le _⟩
    | some q =>
      obtain ⟨e, r⟩ := q
      have := scan_short N f _ _ _ _ hs
      obtain ⟨l, hl, hn⟩ := isP_ex N n (e + 1) r (by omega)
      exact ⟨(f, e + 1) :: l, ⟨rfl, r, by simpa using hs, hl⟩, by simp; omega⟩

/-- arrivals that tell of all pairs just when a stretch is fair -/
structure CameP (es : List Ev) (lv : List Int) (N : Nat) (frm to : Int) (came : List Arr) : Prop where
  pos : 0 < N
  ord : ∀ x ∈ came, x.first ≤ x.last
  low : ∀ x ∈ came, frm ≤ x.first
  top : ∀ x ∈ came, x.last < to
  srt : came.Pairwise (fun x y => x.last ≤ y.last)
  fair : ∀ f t, frm ≤ f → t ≤ to → (FairP es lv f t ↔ ∀ p, p < N → ∃ x ∈ came, x.pair = p ∧ f ≤ x.first ∧ x.last < t)

theorem isP_isW {es : List Ev} {lv : List Int} {N : Nat} {frm to : Int} {came : List Arr} (h : CameP es lv N frm to came) : ∀ (l : List (Int × Int)) (f : Int) (gone rest : List Arr), came = gone ++ rest → frm ≤ f →
    (∀ x ∈ gone, x.first < f) → IsP N f rest l → IsW es lv to f l
  | [], f, gone, rest, hc, hf, hg, hp => by
    intro t ht hF
    have hF := (h.fair f t hf ht).1 hF
    obtain ⟨p, h1, _, h3⟩ := scan_none N f rest _ hp (by rw [cnt_all]; exact h.pos)
    obtain ⟨x, hx, h4, h5, _⟩ := hF p h1
    rw [hc] at hx
    rcases List.mem_append.1 hx with hx | hx
    · have := hg x hx; omega
    · have := h3 x hx h4; omega
  | w :: l, f, gone, rest, hc, hf, hg, hp => by
    obtain ⟨h1, r, h2, h3⟩ := hp
    obtain ⟨pre, x, hr, hx1, hx2, hx3, hx4, hx5⟩ := scan_some N f rest _ _ _ h2 (by rw [cnt_all]; exact h.pos)
    have hxm : x ∈ came := by rw [hc, hr]; simp
    have hsr : (pre ++ x :: r).Pairwise (fun x y => x.last ≤ y.last) := by
      have := h.srt
      rw [hc, hr] at this
      exact (List.pairwise_append.1 this).2.1
    have hpre : ∀ y ∈ pre, y.last ≤ x.last := fun y hy => (List.pairwise_append.1 hsr).2.2 y hy x (List.mem_cons_self)
    have hbeh : ∀ y ∈ r, x.last ≤ y.last := (List.pairwise_cons.1 (List.pairwise_append.1 hsr).2.1).1
    have hto := h.top x hxm
    have ho := h.ord x hxm
    have hleast : ∀ u, u ≤ to → FairP es lv f u → w.2 ≤ u := by
      intro u hu hF
      obtain ⟨y, hy, h4, h5, h6⟩ := (h.fair f u hf hu).1 hF x.pair hx4.2
      rw [hc] at hy
      rcases List.mem_append.1 hy with hy | hy
      · have := hg y hy; omega
      · rw [hr] at hy
        rcases List.mem_append.1 hy with hy | hy
        · have := hx5 y hy h4; omega
        · rcases List.mem_cons.1 hy with rfl | hy
          · omega
          · have := hbeh y hy; omega
    refine ⟨h1, ?_, by omega, fun u hu => ?_, isP_isW h l w.2 (gone ++ pre ++ [x]) r (by rw [hc, hr]; simp) (by omega) ?_ h3⟩
    · refine (h.fair f w.2 hf (by omega)).2 fun p hp => ?_
      obtain ⟨y, hy, h4, h5⟩ := hx3 p hp rfl
      refine ⟨y, ?_, h4, h5, ?_⟩
      · rw [hc, hr]
        rcases hy with hy | rfl
        · simp [hy]
        · simp
      · rcases hy with hy | rfl
        · have := hpre y hy; omega
        · omega
    · by_cases e : u ≤ to
      · exact hleast u e hu
      · omega
    · intro y hy
      simp only [List.mem_append, List.mem_singleton] at hy
      rcases hy with (hy | hy) | rfl
      · have := hg y hy; omega
      · have := hpre y hy
        have := h.ord y (by rw [hc, hr]; simp [hy])
        omega
      · omega

end Go.Proofs.Ytmglnaldpcmakaa
