/-
  Pure: how little is to do to make one row of runes of another, and the least change.
-/
import Derived.Test.YtlbgfcbhpmhhpabZRt
set_option linter.unusedSimpArgs false
set_option linter.unusedVariables false
namespace Go.Proofs.Ytlbgfcbhpmhhpab
open Go.RowKit Go.Lib

def levR (a : Int) (f : List Int → Nat) (n : Nat) : List Int → Nat
  | [] => n + 1
  | b :: bs => if a = b then f bs else 1 + min (f (b :: bs)) (levR a f n bs)
/-- how many runes must be dropped and laid -/
def lev : List Int → List Int → Nat
  | [], y => y.length
  | a :: x, y => levR a (lev x) x.length y

theorem lev_nil (y : List Int) : lev [] y = y.length := rfl
theorem lev_nil' (x : List Int) : lev x [] = x.length := by cases x <;> rfl
theorem lev_same (a : Int) (x y : List Int) : lev (a :: x) (a :: y) = lev x y := by simp [lev, levR]
theorem lev_ne {a b : Int} (h : a ≠ b) (x y : List Int) : lev (a :: x) (b :: y) = 1 + min (lev x (b :: y)) (lev (a :: x) y) := by simp [lev, levR, h]
theorem lev_le : ∀ (x y : List Int), lev x y ≤ x.length + y.length
  | [], y => by simp [lev]
  | a :: x, [] => by rw [lev_nil']; simp
  | a :: x, b :: y => by
    by_cases h : a = b
    · subst h; rw [lev_same]; have := lev_le x y; simp; omega
    · rw [lev_ne h]; have := lev_le x (b :: y); simp at this ⊢; omega

/-- how little is to do from two places on -/
def td (x y : List Int) (i j : Nat) : Nat := lev (x.drop i) (y.drop j)
theorem td_le (x y : List Int) (i j : Nat) : td x y i j ≤ x.length + y.length := by
  have := lev_le (x.drop i) (y.drop j); unfold td; simp at this; omega
theorem td_end {x y : List Int} {i j : Nat} (hi : i ≤ x.length) (hj : j ≤ y.length) (h : i = x.length ∨ j = y.length) : (td x y i j : Int) = max ((x.length : Int) - i) ((y.length : Int) - j) := by
  unfold td
  rcases h with rfl | rfl
  · rw [List.drop_length, lev_nil]; simp; omega
  · rw [List.drop_length, lev_nil']; simp; omega
theorem td_same {x y : List Int} {i j : Nat} (hi : i < x.length) (hj : j < y.length) (h : x[i] = y[j]) : td x y i j = td x y (i + 1) (j + 1) := by
  unfold td
  rw [List.drop_eq_getElem_cons hi, List.drop_eq_getElem_cons hj, h, lev_same]
theorem td_ne {x y : List Int} {i j : Nat} (hi : i < x.length) (hj : j < y.length) (h : x[i] ≠ y[j]) : td x y i j = 1 + min (td x y (i + 1) j) (td x y i (j + 1)) := by
  unfold td
  rw [List.drop_eq_getElem_cons hi, List.drop_eq_getElem_cons hj, lev_ne h]

/-- a change has something -/
def full (d : Nat) (t : List Int) : Bool := decide (0 < d) || !t.isEmpty

def goE : Nat → Nat → Nat → List Int → List Int → List Int → List (Nat × Nat × List Int)
  | 0, k, d, t, _, _ => if full d t then [(k, d, t)] else []
  | _ + 1, k, d, t, [], [] => if full d t then [(k, d, t)] else []
  | f + 1, k, d, t, a :: x, b :: y =>
    if a = b then (if full d t then (k, d, t) :: goE f 1 0 [] x y else goE f (k + 1) d t x y)
    else if lev x (b :: y) < lev (a :: x) (b :: y) then goE f k (d + 1) t x (b :: y) else goE f k d (t ++ [b]) (a :: x) y
  | f + 1, k, d, t, _ :: x, [] => goE f k (d + 1) t x []
  | f + 1, k, d, t, [], b :: y => goE f k d (t ++ [b]) [] y

theorem goE_more : ∀ (f k d : Nat) (t x y : List Int), x.length + y.length ≤ f → goE (f + 1) k d t x y = goE f k d t x y
  | 0, k, d, t, [], [], _ => rfl
  | 0, k, d, t, _ :: _, _, h => by simp at h
  | 0, k, d, t, [], _ :: _, h => by simp at h
  | f + 1, k, d, t, [], [], _ => rfl
  | f + 1, k, d, t, a :: x, b :: y, h => by
    simp at h
    unfold goE
    rw [goE_more f 1 0 [] x y (by omega), goE_more f (k + 1) d t x y (by omega), goE_more f k (d + 1) t x (b :: y) (by simp; omega), goE_more f k d (t ++ [b]) (a :: x) y (by simp; omega)]
  | f + 1, k, d, t, a :: x, [], h => by
    simp at h
    unfold goE
    rw [goE_more f k (d + 1) t x [] (by simp; omega)]
  | f + 1, k, d, t, [], b :: y, h => by
    simp at h
    unfold goE
    rw [goE_more f k d (t ++ [b]) [] y (by simp; omega)]

/-- the change that is still to come: k are kept, d dropped, t laid so far -/
def go (k d : Nat) (t x y : List Int) : List (Nat × Nat × List Int) := goE (x.length + y.length) k d t x y

theorem goE_go (f k d : Nat) (t x y : List Int) (h : x.length + y.length ≤ f) : goE f k d t x y = go k d t x y := by
  unfold go
  obtain ⟨n, rfl⟩ : ∃ n, f = x.length + y.length + n := ⟨f - (x.length + y.length), by omega⟩
  clear h
  induction n with
  | zero => rfl
  | succ n ih => rw [← Nat.add_assoc, goE_more _ _ _ _ _ _ (by omega), ih]

theorem go_end (k d : Nat) (t : List Int) : go k d t [] [] = if full d t then [(k, d, t)] else [] := rfl
theorem go_same (k d : Nat) (t : List Int) (a : Int) (x y : List Int) : go k d t (a :: x) (a :: y) = if full d t then (k, d, t) :: go 1 0 [] x y else go (k + 1) d t x y := by
  have e : go k d t (a :: x) (a :: y) = goE (x.length + y.length + 1 + 1) k d t (a :: x) (a :: y) := by unfold go; congr 1; simp; omega
  rw [e]
  unfold goE
  rw [if_pos rfl, goE_go _ _ _ _ _ _ (by omega), goE_go _ _ _ _ _ _ (by omega)]
theorem go_drop (k d : Nat) (t : List Int) {a b : Int} (h : a ≠ b) (x y : List Int) (hl : lev x (b :: y) < lev (a :: x) (b :: y)) : go k d t (a :: x) (b :: y) = go k (d + 1) t x (b :: y) := by
  have e : go k d t (a :: x) (b :: y) = goE (x.length + y.length + 1 + 1) k d t (a :: x) (b :: y) := by unfold go; congr 1; simp; omega
  rw [e]
  unfold goE
  rw [if_neg h, if_pos hl, goE_go _ _ _ _ _ _ (by simp; omega)]
theorem go_lay (k d : Nat) (t : List Int) {a b : Int} (h : a ≠ b) (x y : List Int) (hl : ¬ lev x (b :: y) < lev (a :: x) (b :: y)) : go k d t (a :: x) (b :: y) = go k d (t ++ [b]) (a :: x) y := by
  have e : go k d t (a :: x) (b :: y) = goE (x.length + y.length + 1 + 1) k d t (a :: x) (b :: y) := by unfold go; congr 1; simp; omega
  rw [e]
  unfold goE
  rw [if_neg h, if_neg hl, goE_go _ _ _ _ _ _ (by simp; omega)]
theorem go_dropE (k d : Nat) (t : List Int) (a : Int) (x : List Int) : go k d t (a :: x) [] = go k (d + 1) t x [] := rfl
theorem go_layE (k d : Nat) (t : List Int) (b : Int) (y : List Int) : go k d t [] (b :: y) = go k d (t ++ [b]) [] y := by
  have e : go k d t [] (b :: y) = goE (y.length + 1) k d t [] (b :: y) := by unfold go; congr 1; simp
  rw [e]
  unfold goE
  rw [goE_go _ _ _ _ _ _ (by simp)]

/-- both go on with the same rune -/
def smB (x y : List Int) (i j : Nat) : Bool := match x[i]?, y[j]? with
  | some a, some b => decide (a = b)
  | _, _ => false
/-- the next one of x is one to be dropped -/
def mdB (x y : List Int) (i j : Nat) : Bool := decide (i < x.length) && decide (td x y (i + 1) j < td x y i j)

theorem smB_in {x y : List Int} {i j : Nat} (hi : i < x.length) (hj : j < y.length) : smB x y i j = decide (x[i] = y[j]) := by
  unfold smB; simp [List.getElem?_eq_getElem hi, List.getElem?_eq_getElem hj]
theorem smB_lt {x y : List Int} {i j : Nat} (h : smB x y i j = true) : ∃ (hi : i < x.length) (hj : j < y.length), x[i] = y[j] := by
  unfold smB at h
  cases hx : x[i]? with
  | none => rw [hx] at h; cases h
  | some a =>
    cases hy : y[j]? with
    | none => rw [hx, hy] at h; cases h
    | some b =>
      rw [hx, hy] at h
      obtain ⟨hi, ea⟩ := List.getElem?_eq_some_iff.1 hx
      obtain ⟨hj, eb⟩ := List.getElem?_eq_some_iff.1 hy
      exact ⟨hi, hj, by rw [ea, eb]; exact of_decide_eq_true h⟩

def gx (x y : List Int) (k d : Nat) (t : List Int) (i j : Nat) : List (Nat × Nat × List Int) := go k d t (x.drop i) (y.drop j)

theorem gx_keep {x y : List Int} {i j : Nat} (h : smB x y i j = true) (k : Nat) : gx x y k 0 [] i j = gx x y (k + 1) 0 [] (i + 1) (j + 1) := by
  obtain ⟨hi, hj, e⟩ := smB_lt h
  unfold gx
  rw [List.drop_eq_getElem_cons hi, List.drop_eq_getElem_cons hj, e, go_same]
  rfl
theorem gx_drop {x y : List Int} {i j : Nat} (hj : j ≤ y.length) (h : smB x y i j = false) (hm : mdB x y i j = true) (k d : Nat) (t : List Int) : gx x y k d t i j = gx x y k (d + 1) t (i + 1) j := by
  simp [mdB] at hm
  obtain ⟨hi, hl⟩ := hm
  unfold gx
  rw [List.drop_eq_getElem_cons hi]
  by_cases hj' : j < y.length
  · rw [smB_in hi hj'] at h
    simp at h
    unfold td at hl
    rw [List.drop_eq_getElem_cons hi, List.drop_eq_getElem_cons hj'] at hl
    rw [List.drop_eq_getElem_cons hj', go_drop _ _ _ h _ _ hl]
  · rw [List.drop_eq_nil_of_le (show y.length ≤ j by omega), go_dropE]
theorem gx_lay {x y : List Int} {i j : Nat} (hi : i ≤ x.length) (hj : j ≤ y.length) (h : smB x y i j = false) (hm : mdB x y i j = false) (he : ¬ (i = x.length ∧ j = y.length)) (k d : Nat) (t : List Int) : ∃ hj : j < y.length, gx x y k d t i j = gx x y k d (t ++ [y[j]]) i (j + 1) := by
  simp [mdB] at hm
  unfold gx
  by_cases hi' : i < x.length
  · have hm := hm hi'
    by_cases hj' : j < y.length
    · refine ⟨hj', ?_⟩
      rw [smB_in hi' hj'] at h
      simp at h
      unfold td at hm
      rw [List.drop_eq_getElem_cons hi', List.drop_eq_getElem_cons hj'] at hm
      rw [List.drop_eq_getElem_cons hi', List.drop_eq_getElem_cons hj', go_lay _ _ _ h _ _ (by omega)]
    · exfalso
      unfold td at hm
      rw [List.drop_eq_nil_of_le (show y.length ≤ j by omega), lev_nil', lev_nil'] at hm
      simp at hm
      omega
  · have hj' : j < y.length := by omega
    refine ⟨hj', ?_⟩
    rw [List.drop_eq_nil_of_le (show x.length ≤ i by omega), List.drop_eq_getElem_cons hj', go_layE]
theorem gx_close {x y : List Int} {i j : Nat} (h : smB x y i j = true ∨ (i = x.length ∧ j = y.length)) (k d : Nat) (t : List Int) (hf : full d t = true) : gx x y k d t i j = (k, d, t) :: gx x y 0 0 [] i j := by
  unfold gx
  rcases h with h | ⟨rfl, rfl⟩
  · obtain ⟨hi, hj, e⟩ := smB_lt h
    rw [List.drop_eq_getElem_cons hi, List.drop_eq_getElem_cons hj, e, go_same, go_same, if_pos hf]
    rfl
  · rw [List.drop_length, List.drop_length, go_end, go_end, if_pos hf]
    rfl
theorem gx_none (x y : List Int) (k : Nat) : gx x y k 0 [] x.length y.length = [] := by
  unfold gx; rw [List.drop_length, List.drop_length, go_end]; rfl

/-- an Edit: what is kept, dropped, laid -/
abbrev Ed := Int × Int × ByteArray
def edOf (e : Nat × Nat × List Int) : Ed := ((e.1 : Int), (e.2.1 : Int), runesBytes e.2.2)
/-- the least change -/
def mkL (x y : List Int) : List Ed := (gx x y 0 0 [] 0 0).map edOf
def edC (e : Ed) : List Value := [.int .i64 e.1, .int .i64 e.2.1, .string e.2.2]
def edsC (l : List Ed) : List Value := l.flatMap edC
theorem edsC_length (l : List Ed) : (edsC l).length = l.length * 3 := by
  unfold edsC
  induction l with
  | nil => rfl
  | cons e l ih => rw [List.flatMap_cons, List.length_append, ih]; simp [edC]; omega
theorem edsC_append (l m : List Ed) : edsC (l ++ m) = edsC l ++ edsC m := by simp [edsC]
theorem edsC_get : ∀ (l : List Ed) (j q : Nat) (e : Ed), l[j]? = some e → q < 3 → (edsC l)[j * 3 + q]? = (edC e)[q]?
  | [], j, q, e, h, _ => by simp at h
  | a :: l, 0, q, e, h, hq => by
    simp at h; subst h
    show (edC a ++ edsC l)[0 * 3 + q]? = _
    rw [Nat.zero_mul, Nat.zero_add, List.getElem?_append_left (by simpa [edC] using hq)]
  | a :: l, j + 1, q, e, h, hq => by
    have hl : (edC a).length = 3 := rfl
    show (edC a ++ edsC l)[(j + 1) * 3 + q]? = _
    rw [List.getElem?_append_right (by rw [hl]; omega), hl, show (j + 1) * 3 + q - 3 = j * 3 + q by omega]
    exact edsC_get l j q e (by simpa using h) hq

end Go.Proofs.Ytlbgfcbhpmhhpab
