/-
  Pure: what a least change weighs; how the weights of changes belong together.
-/
import Derived.Test.YtlbgfcbhpmhhpabZDQ
set_option linter.unusedSimpArgs false
set_option linter.unusedVariables false
namespace Go.Proofs.Ytlbgfcbhpmhhpab
open Go.RowKit Go.Lib

/-- what is dropped and laid -/
def wsum : List (Nat × Nat × List Int) → Nat
  | [] => 0
  | e :: l => e.2.1 + e.2.2.length + wsum l

theorem full_no {d : Nat} {t : List Int} (h : ¬ full d t = true) : d = 0 ∧ t = [] := by
  unfold full at h
  simp at h
  exact ⟨h.1, h.2⟩

theorem wsum_go : ∀ (f : Nat) (x y : List Int), x.length + y.length ≤ f → ∀ (k d : Nat) (t : List Int), wsum (go k d t x y) = d + t.length + lev x y
  | _, [], [], _, k, d, t => by
    rw [go_end, lev_nil]
    split
    · simp [wsum]
    · rename_i h
      obtain ⟨rfl, rfl⟩ := full_no h
      simp [wsum]
  | 0, _ :: _, _, h, _, _, _ => by simp at h
  | 0, [], _ :: _, h, _, _, _ => by simp at h
  | f + 1, a :: x, [], h, k, d, t => by
    simp at h
    rw [go_dropE, wsum_go f x [] (by simp; omega), lev_nil', lev_nil']
    simp; omega
  | f + 1, [], b :: y, h, k, d, t => by
    simp at h
    rw [go_layE, wsum_go f [] y (by simp; omega), lev_nil, lev_nil]
    simp; omega
  | f + 1, a :: x, b :: y, h, k, d, t => by
    simp at h
    by_cases e : a = b
    · subst e
      rw [go_same, lev_same]
      split
      · show d + t.length + wsum (go 1 0 [] x y) = _
        rw [wsum_go f x y (by omega)]
        simp
      · rw [wsum_go f x y (by omega)]
    · have hl := lev_ne e x y
      by_cases hd : lev x (b :: y) < lev (a :: x) (b :: y)
      · rw [go_drop k d t e x y hd, wsum_go f x (b :: y) (by simp; omega)]
        omega
      · rw [go_lay k d t e x y hd, wsum_go f (a :: x) y (by simp; omega)]
        simp only [List.length_append, List.length_singleton]
        omega

theorem go_mem : ∀ (f : Nat) (x y : List Int), x.length + y.length ≤ f → ∀ (k d : Nat) (t : List Int) (e : Nat × Nat × List Int), e ∈ go k d t x y → e.1 ≤ k + x.length ∧ e.2.1 ≤ d + x.length ∧ e.2.2.length ≤ t.length + y.length
  | _, [], [], _, k, d, t, e, he => by
    rw [go_end] at he
    split at he
    · simp at he; subst he; simp
    · cases he
  | 0, _ :: _, _, h, _, _, _, _, _ => by simp at h
  | 0, [], _ :: _, h, _, _, _, _, _ => by simp at h
  | f + 1, a :: x, [], h, k, d, t, e, he => by
    simp at h
    rw [go_dropE] at he
    have := go_mem f x [] (by simp; omega) _ _ _ e he
    simp at this ⊢; omega
  | f + 1, [], b :: y, h, k, d, t, e, he => by
    simp at h
    rw [go_layE] at he
    have := go_mem f [] y (by simp; omega) _ _ _ e he
    simp at this ⊢; omega
  | f + 1, a :: x, b :: y, h, k, d, t, e, he => by
    simp at h
    by_cases hab : a = b
    · subst hab
      rw [go_same] at he
      split at he
      · rcases List.mem_cons.1 he with rfl | he
        · simp
        · have := go_mem f x y (by omega) _ _ _ e he
          simp at this ⊢; omega
      · have := go_mem f x y (by omega) _ _ _ e he
        simp at this ⊢; omega
    · by_cases hd : lev x (b :: y) < lev (a :: x) (b :: y)
      · rw [go_drop k d t hab x y hd] at he
        have := go_mem f x (b :: y) (by simp; omega) _ _ _ e he
        simp at this ⊢; omega
      · rw [go_lay k d t hab x y hd] at he
        have := go_mem f (a :: x) y (by simp; omega) _ _ _ e he
        simp at this ⊢; omega

theorem go_count : ∀ (f : Nat) (x y : List Int), x.length + y.length ≤ f → ∀ (k d : Nat) (t : List Int), (go k d t x y).length ≤ 1 + x.length + y.length
  | _, [], [], _, k, d, t => by rw [go_end]; split <;> simp
  | 0, _ :: _, _, h, _, _, _ => by simp at h
  | 0, [], _ :: _, h, _, _, _ => by simp at h
  | f + 1, a :: x, [], h, k, d, t => by
    simp at h
    rw [go_dropE]
    have := go_count f x [] (by simp; omega) k (d + 1) t
    simp at this ⊢; omega
  | f + 1, [], b :: y, h, k, d, t => by
    simp at h
    rw [go_layE]
    have := go_count f [] y (by simp; omega) k d (t ++ [b])
    simp at this ⊢; omega
  | f + 1, a :: x, b :: y, h, k, d, t => by
    simp at h
    by_cases hab : a = b
    · subst hab
      rw [go_same]
      split
      · have := go_count f x y (by omega) 1 0 []
        simp at this ⊢; omega
      · have := go_count f x y (by omega) (k + 1) d t
        simp at this ⊢; omega
    · by_cases hd : lev x (b :: y) < lev (a :: x) (b :: y)
      · rw [go_drop k d t hab x y hd]
        have := go_count f x (b :: y) (by simp; omega) k (d + 1) t
        simp at this ⊢; omega
      · rw [go_lay k d t hab x y hd]
        have := go_count f (a :: x) y (by simp; omega) k d (t ++ [b])
        simp at this ⊢; omega

theorem mkL_count (x y : List Int) : (mkL x y).length ≤ 1 + x.length + y.length := by
  unfold mkL gx
  rw [List.length_map]
  exact go_count _ x y (Nat.le_refl _) 0 0 []
theorem mkL_ok (x y : List Int) (hx : x.length ≤ 1000000) (hy : y.length ≤ 1000000) : ∀ e ∈ mkL x y, EdOk e := by
  intro e he
  unfold mkL gx at he
  obtain ⟨⟨k, d, t⟩, hm, rfl⟩ := List.mem_map.1 he
  have := go_mem _ x y (Nat.le_refl _) 0 0 [] _ hm
  have hs := runesBytes_size t
  simp at this
  unfold EdOk edOf
  simp only
  omega

theorem wtL_sum : ∀ (l : List (Nat × Nat × List Int)) (n : Nat), n + wsum l ≤ 9223372036854775807 → wtL (n : Int) (l.map edOf) = ((n + wsum l : Nat) : Int)
  | [], n, _ => by simp [wtL, wsum]
  | e :: l, n, h => by
    simp only [wsum] at h
    show wtL (addI (addI (n : Int) (max (e.2.1 : Int) 0)) (((allL (runesBytes e.2.2)).length : Nat) : Int)) (l.map edOf) = _
    rw [count_laid]
    have e1 : addI (addI (n : Int) (max (e.2.1 : Int) 0)) ((e.2.2.length : Nat) : Int) = ((n + (e.2.1 + e.2.2.length) : Nat) : Int) := by unfold addI; omega
    rw [e1, wtL_sum l _ (by omega)]
    simp only [wsum]
    omega
theorem wt_mkL (x y : List Int) (hx : x.length ≤ 1000000) (hy : y.length ≤ 1000000) : wtL 0 (mkL x y) = ((lev x y : Nat) : Int) := by
  have hl := lev_le x y
  have hw := wsum_go _ x y (Nat.le_refl _) 0 0 []
  have := wtL_sum (gx x y 0 0 [] 0 0) 0 (by unfold gx; rw [List.drop_zero, List.drop_zero, hw]; simp; omega)
  unfold mkL
  rw [show (0 : Int) = ((0 : Nat) : Int) from rfl, this]
  unfold gx
  rw [List.drop_zero, List.drop_zero, hw]
  simp

theorem lev_sym (x : List Int) : ∀ y : List Int, lev x y = lev y x := by
  induction x with
  | nil => intro y; rw [lev_nil, lev_nil']
  | cons a x ihx =>
    intro y
    induction y with
    | nil => rw [lev_nil, lev_nil']
    | cons b y ihy =>
      by_cases h : a = b
      · subst h; rw [lev_same, lev_same]; exact ihx y
      · rw [lev_ne h, lev_ne (Ne.symm h), ihx (b :: y), ihy, Nat.min_comm]

theorem lev_lip (x : List Int) : (∀ (y : List Int) (a : Int), lev (a :: x) y ≤ 1 + lev x y) ∧ ∀ (y : List Int) (b : Int), lev x y ≤ 1 + lev x (b :: y) := by
  induction x with
  | nil =>
    refine ⟨fun y a => ?_, fun y b => ?_⟩
    · have := lev_le [a] y
      rw [lev_nil]; simp at this; omega
    · rw [lev_nil, lev_nil]; simp; omega
  | cons a0 x ih =>
    have hD : ∀ (y : List Int) (b : Int), lev (a0 :: x) y ≤ 1 + lev (a0 :: x) (b :: y) := by
      intro y b
      by_cases h : a0 = b
      · subst h; rw [lev_same]; exact ih.1 y a0
      · rw [lev_ne h]
        have h1 := ih.1 y a0
        have h2 := ih.2 y b
        omega
    refine ⟨fun y a => ?_, hD⟩
    cases y with
    | nil => rw [lev_nil', lev_nil']; simp; omega
    | cons b y =>
      by_cases h : a = b
      · subst h; rw [lev_same]; exact hD y a
      · rw [lev_ne h]; omega

theorem lev_lipB (x y : List Int) (b : Int) : lev x (b :: y) ≤ 1 + lev x y := by
  rw [lev_sym, lev_sym x y]; exact (lev_lip y).1 x b
theorem lev_short (y : List Int) : ∀ z : List Int, z.length ≤ y.length + lev y z := by
  induction y with
  | nil => intro z; rw [lev_nil]; simp
  | cons b y ihy =>
    intro z
    induction z with
    | nil => simp
    | cons c z ihz =>
      by_cases h : b = c
      · subst h; rw [lev_same]; have := ihy z; simp; omega
      · rw [lev_ne h]
        have h1 := ihy (c :: z)
        simp only [List.length_cons] at h1 ihz ⊢
        omega
theorem lev_tri (x : List Int) : ∀ y z : List Int, lev x z ≤ lev x y + lev y z := by
  induction x with
  | nil => intro y z; rw [lev_nil, lev_nil]; exact lev_short y z
  | cons a x ihx =>
    intro y
    induction y with
    | nil => intro z; rw [lev_nil', lev_nil]; exact lev_le _ z
    | cons b y ihy =>
      intro z
      induction z with
      | nil =>
        have h := lev_short (b :: y) (a :: x)
        rw [lev_sym] at h
        rw [lev_nil', lev_nil']
        omega
      | cons c z ihz =>
        have L1 := (lev_lip x).1 (c :: z) a
        have L2 := lev_lipB (a :: x) z c
        by_cases hab : a = b
        · subst hab
          rw [lev_same a x y] at *
          by_cases hac : a = c
          · subst hac
            rw [lev_same, lev_same]
            exact ihx y z
          · rw [lev_ne hac y z]
            have h1 := ihx y (c :: z)
            omega
        · have h1 := ihx (b :: y) (c :: z)
          have h2 := ihy (c :: z)
          have hl := lev_ne hab x y
          by_cases hbc : b = c
          · subst hbc
            rw [lev_same b y z] at *
            have h3 := ihy z
            omega
          · have hr := lev_ne hbc y z
            omega

theorem lev_one (s : Int) : ∀ y : List Int, lev [s] (y ++ [s]) = y.length
  | [] => by simp [lev_same, lev_nil]
  | b :: y => by
    by_cases h : s = b
    · subst h; rw [List.cons_append, lev_same, lev_nil]; simp
    · rw [List.cons_append, lev_ne h, lev_nil, lev_one s y]; simp; omega
theorem lev_snoc (s : Int) (x : List Int) : ∀ y : List Int, lev (x ++ [s]) (y ++ [s]) = lev x y := by
  induction x with
  | nil => intro y; rw [lev_nil]; exact lev_one s y
  | cons a x ihx =>
    intro y
    induction y with
    | nil => rw [lev_sym, lev_nil']; exact lev_one s (a :: x)
    | cons b y ihy =>
      rw [List.cons_append, List.cons_append] at *
      by_cases h : a = b
      · subst h; rw [lev_same, lev_same]; exact ihx y
      · rw [lev_ne h, lev_ne h, ← ihy]
        have := ihx (b :: y)
        rw [List.cons_append] at this
        rw [this]
theorem lev_pre (x y : List Int) : ∀ c : List Int, lev (c ++ x) (c ++ y) = lev x y
  | [] => rfl
  | a :: c => by rw [List.cons_append, List.cons_append, lev_same]; exact lev_pre x y c
theorem lev_post : ∀ (c x y : List Int), lev (x ++ c) (y ++ c) = lev x y
  | [], x, y => by simp
  | s :: c, x, y => by
    have e : ∀ l : List Int, l ++ s :: c = (l ++ [s]) ++ c := fun l => by simp
    rw [e, e, lev_post c, lev_snoc]
theorem lev_self : ∀ x : List Int, lev x x = 0
  | [] => rfl
  | a :: x => by rw [lev_same]; exact lev_self x
theorem go_self : ∀ (x : List Int) (k : Nat), go k 0 [] x x = []
  | [], k => by rw [go_end]; rfl
  | a :: x, k => by rw [go_same, if_neg (by decide)]; exact go_self x (k + 1)
theorem mkL_self (x : List Int) : mkL x x = [] := by unfold mkL gx; rw [List.drop_zero, go_self]; rfl

end Go.Proofs.Ytlbgfcbhpmhhpab
