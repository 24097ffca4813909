/-
  Pure: the least change leads there; its form; the longest common row.
-/
import Derived.Test.YtlbgfcbhpmhhpaaZDR
set_option linter.unusedSimpArgs false
set_option linter.unusedVariables false
namespace Go.Proofs.Ytlbgfcbhpmhhpaa
open Go.RowKit Go.Lib

theorem rb_pos {t : List Int} (h : t ≠ []) : 0 < (runesBytes t).size := by
  cases t with
  | nil => exact absurd rfl h
  | cons a t =>
    have e : (runesBytes (a :: t)).size = ((a :: t).flatMap encL).length := by rw [← runesBytes_list]; simp
    have := encL_pos a
    rw [e, List.flatMap_cons, List.length_append]
    omega
/-- what a change makes of a row of runes -/
def apR : List Int → List (Nat × Nat × List Int) → List Int
  | x, [] => x
  | x, e :: l => x.take e.1 ++ e.2.2 ++ apR ((x.drop e.1).drop e.2.1) l

theorem apR_go : ∀ (f : Nat) (x y : List Int), x.length + y.length ≤ f → ∀ (p q t : List Int), apR (p ++ (q ++ x)) (go p.length q.length t x y) = p ++ (t ++ y)
  | _, [], [], _, p, q, t => by
    rw [go_end]
    split
    · simp [apR]
    · rename_i h
      obtain ⟨hq, rfl⟩ := full_no h
      obtain rfl : q = [] := List.eq_nil_of_length_eq_zero hq
      simp [apR]
  | 0, _ :: _, _, h, _, _, _ => by simp at h
  | 0, [], _ :: _, h, _, _, _ => by simp at h
  | f + 1, a :: x, [], h, p, q, t => by
    simp at h
    rw [go_dropE]
    have := apR_go f x [] (by simp; omega) p (q ++ [a]) t
    simpa using this
  | f + 1, [], b :: y, h, p, q, t => by
    simp at h
    rw [go_layE]
    have := apR_go f [] y (by simp; omega) p q (t ++ [b])
    simpa using this
  | f + 1, a :: x, b :: y, h, p, q, t => by
    simp at h
    by_cases hab : a = b
    · subst hab
      rw [go_same]
      split
      · have := apR_go f x y (by omega) [a] [] []
        simp only [List.length_singleton, List.length_nil, List.nil_append] at this
        show (p ++ (q ++ a :: x)).take p.length ++ t ++ apR (((p ++ (q ++ a :: x)).drop p.length).drop q.length) (go 1 0 [] x y) = _
        rw [List.take_left, List.drop_left, List.drop_left, show a :: x = [a] ++ x from rfl, this]
        simp
      · rename_i hf
        obtain ⟨hq, rfl⟩ := full_no hf
        obtain rfl : q = [] := List.eq_nil_of_length_eq_zero hq
        have := apR_go f x y (by omega) (p ++ [a]) [] []
        simpa using this
    · by_cases hd : lev x (b :: y) < lev (a :: x) (b :: y)
      · rw [go_drop _ _ t hab x y hd]
        have := apR_go f x (b :: y) (by simp; omega) p (q ++ [a]) t
        simpa using this
      · rw [go_lay _ _ t hab x y hd]
        have := apR_go f (a :: x) y (by simp; omega) p q (t ++ [b])
        simpa using this

theorem chkL_one (n : Int) (k d : Nat) (t : List Int) (l : List Ed) (h : (k : Int) + (d : Int) ≤ n) : chkL n (edOf (k, d, t) :: l) = chkL (n - ((k : Int) + (d : Int))) l := by
  show (if (k : Int) < 0 ∨ (d : Int) < 0 then 1 else if goodB (runesBytes t) = false then 2 else if n - (k : Int) < (d : Int) then 3 else chkL (n - ((k : Int) + (d : Int))) l) = _
  rw [if_neg (by omega), good_laid, if_neg (by decide), if_neg (by omega)]
theorem chkL_go : ∀ (f : Nat) (x y : List Int), x.length + y.length ≤ f → ∀ (k d : Nat) (t : List Int), chkL ((k + d + x.length : Nat) : Int) ((go k d t x y).map edOf) = 0
  | _, [], [], _, k, d, t => by
    rw [go_end]
    split
    · rw [List.map_cons, chkL_one _ _ _ _ _ (by simp)]
      rfl
    · rfl
  | 0, _ :: _, _, h, _, _, _ => by simp at h
  | 0, [], _ :: _, h, _, _, _ => by simp at h
  | f + 1, a :: x, [], h, k, d, t => by
    simp at h
    rw [go_dropE]
    have := chkL_go f x [] (by simp; omega) k (d + 1) t
    rw [show k + d + (a :: x).length = k + (d + 1) + x.length by simp; omega]
    exact this
  | f + 1, [], b :: y, h, k, d, t => by
    simp at h
    rw [go_layE]
    exact chkL_go f [] y (by simp; omega) k d (t ++ [b])
  | f + 1, a :: x, b :: y, h, k, d, t => by
    simp at h
    by_cases hab : a = b
    · subst hab
      rw [go_same]
      split
      · have := chkL_go f x y (by omega) 1 0 []
        rw [List.map_cons, chkL_one _ _ _ _ _ (by simp; omega)]
        have e : ((k + d + (a :: x).length : Nat) : Int) - ((k : Int) + (d : Int)) = ((1 + 0 + x.length : Nat) : Int) := by simp; omega
        rw [e]
        exact this
      · rename_i hf
        obtain ⟨rfl, rfl⟩ := full_no hf
        have := chkL_go f x y (by omega) (k + 1) 0 []
        rw [show k + 0 + (a :: x).length = k + 1 + 0 + x.length by simp; omega]
        exact this
    · by_cases hd : lev x (b :: y) < lev (a :: x) (b :: y)
      · rw [go_drop _ _ t hab x y hd]
        have := chkL_go f x (b :: y) (by simp; omega) k (d + 1) t
        rw [show k + d + (a :: x).length = k + (d + 1) + x.length by simp; omega]
        exact this
      · rw [go_lay _ _ t hab x y hd]
        exact chkL_go f (a :: x) y (by simp; omega) k d (t ++ [b])

theorem go_form : ∀ (f : Nat) (x y : List Int), x.length + y.length ≤ f → ∀ (k d : Nat) (t : List Int), (∀ e ∈ go k d t x y, full e.2.1 e.2.2 = true) ∧ (1 ≤ k → ∀ e ∈ go k d t x y, 1 ≤ e.1) ∧ ∀ e ∈ (go k d t x y).tail, 1 ≤ e.1
  | _, [], [], _, k, d, t => by
    rw [go_end]
    split
    · rename_i h
      refine ⟨fun e he => ?_, fun hk e he => ?_, fun e he => ?_⟩
      · simp at he; subst he; exact h
      · simp at he; subst he; exact hk
      · simp at he
    · exact ⟨fun e he => by simp at he, fun _ e he => by simp at he, fun e he => by simp at he⟩
  | 0, _ :: _, _, h, _, _, _ => by simp at h
  | 0, [], _ :: _, h, _, _, _ => by simp at h
  | f + 1, a :: x, [], h, k, d, t => by
    simp at h
    rw [go_dropE]
    exact go_form f x [] (by simp; omega) k (d + 1) t
  | f + 1, [], b :: y, h, k, d, t => by
    simp at h
    rw [go_layE]
    exact go_form f [] y (by simp; omega) k d (t ++ [b])
  | f + 1, a :: x, b :: y, h, k, d, t => by
    simp at h
    by_cases hab : a = b
    · subst hab
      rw [go_same]
      split
      · rename_i hf
        obtain ⟨h1, h2, h3⟩ := go_form f x y (by omega) 1 0 []
        refine ⟨fun e he => ?_, fun hk e he => ?_, fun e he => h2 (Nat.le_refl _) e he⟩
        · rcases List.mem_cons.1 he with rfl | he
          · exact hf
          · exact h1 e he
        · rcases List.mem_cons.1 he with rfl | he
          · exact hk
          · exact h2 (Nat.le_refl _) e he
      · obtain ⟨h1, h2, h3⟩ := go_form f x y (by omega) (k + 1) d t
        exact ⟨h1, fun _ => h2 (by omega), h3⟩
    · by_cases hd : lev x (b :: y) < lev (a :: x) (b :: y)
      · rw [go_drop _ _ t hab x y hd]
        exact go_form f x (b :: y) (by simp; omega) k (d + 1) t
      · rw [go_lay _ _ t hab x y hd]
        exact go_form f (a :: x) y (by simp; omega) k d (t ++ [b])

theorem bL_runes (x : List Int) : bL (runesBytes x) = x.flatMap encL := runesBytes_list x
theorem apW_R : ∀ (l : List (Nat × Nat × List Int)) (x : List Int), apW (runesBytes x) (l.map edOf) = (apR x l).flatMap encL
  | [], x => bL_runes x
  | e :: l, x => by
    show bL (cutL (runesBytes x) (e.1 : Int)) ++ bL (runesBytes e.2.2) ++ apW (cutR (cutR (runesBytes x) (e.1 : Int)) (e.2.1 : Int)) (l.map edOf) = _
    rw [(cut_laid x _).1, (cut_laid x _).2, (cut_laid _ _).2, Int.toNat_natCast, Int.toNat_natCast, apW_R l, bL_runes, bL_runes]
    simp [apR]

/-- P5.5: what is made leads there -/
theorem mkL_leads (x y : List Int) : ofL (apW (runesBytes x) (mkL x y)) = runesBytes y := by
  unfold mkL gx
  rw [List.drop_zero, List.drop_zero, apW_R]
  have := apR_go _ x y (Nat.le_refl _) [] [] []
  simp only [List.length_nil, List.nil_append] at this
  rw [this, runesBytes_eq]
  rfl
theorem mkL_chk (x y : List Int) (hx : x.length ≤ 1000000) : chk (runesBytes x) (mkL x y) = 0 := by
  unfold chk mkL gx
  rw [good_laid, if_neg (by decide), count_laid, List.drop_zero, List.drop_zero]
  have := chkL_go _ x y (Nat.le_refl _) 0 0 []
  simpa using this
theorem mkL_form (x y : List Int) (i : Nat) (e : Ed) (h : (mkL x y)[i]? = some e) : 0 ≤ e.1 ∧ 0 ≤ e.2.1 ∧ (0 < i → 1 ≤ e.1) ∧ (e.2.1 = 0 → 0 < e.2.2.size) := by
  unfold mkL gx at h
  rw [List.drop_zero, List.drop_zero, List.getElem?_map] at h
  cases hg : (go 0 0 [] x y)[i]? with
  | none => rw [hg] at h; simp at h
  | some g =>
    rw [hg] at h
    simp at h
    subst h
    obtain ⟨h1, _, h3⟩ := go_form _ x y (Nat.le_refl _) 0 0 []
    have hm := List.mem_of_getElem? hg
    refine ⟨by simp [edOf], by simp [edOf], fun hi => ?_, fun h0 => ?_⟩
    · have : g ∈ (go 0 0 [] x y).tail := by
        obtain ⟨i, rfl⟩ : ∃ j, i = j + 1 := ⟨i - 1, by omega⟩
        have ht : (go 0 0 [] x y).tail[i]? = some g := by rw [List.getElem?_tail]; exact hg
        exact List.mem_of_getElem? ht
      have := h3 g this
      simp only [edOf]; omega
    · have hf := h1 g hm
      simp only [edOf] at h0 ⊢
      have hd : g.2.1 = 0 := by omega
      unfold full at hf
      rw [hd] at hf
      simp at hf
      exact rb_pos hf

theorem lev_ne1 (a : Int) : ∀ (y : List Int) (b : Int), a ≠ b → lev [a] (y ++ [b]) = 1 + min (y.length + 1) (lev [a] y)
  | [], b, h => by rw [List.nil_append, lev_ne h, lev_nil, lev_nil']; simp
  | d :: y, b, h => by
    rw [List.cons_append]
    by_cases e : a = d
    · subst e; rw [lev_same, lev_same, lev_nil, lev_nil]; simp <;> omega
    · rw [lev_ne e, lev_ne e, lev_nil, lev_nil, lev_ne1 a y b h]; simp <;> omega
theorem lev_ne_snoc (a b : Int) (h : a ≠ b) (x : List Int) : ∀ y : List Int, lev (x ++ [a]) (y ++ [b]) = 1 + min (lev x (y ++ [b])) (lev (x ++ [a]) y) := by
  induction x with
  | nil => intro y; rw [List.nil_append, lev_ne1 a y b h, lev_nil]; simp
  | cons c x ihx =>
    intro y
    induction y with
    | nil =>
      rw [List.nil_append, lev_sym (c :: x ++ [a]) [b], lev_ne1 b (c :: x) a (Ne.symm h), lev_nil', lev_sym (c :: x) [b]]
      simp <;> omega
    | cons d y ihy =>
      have i1 := ihx (d :: y)
      have i0 := ihx y
      clear ihx
      simp only [List.cons_append] at *
      by_cases e : c = d
      · subst e; rw [lev_same, lev_same, lev_same]; exact i0
      · rw [lev_ne e, lev_ne e, lev_ne e, i1, ihy]
        omega

/-- how much two beginnings are apart -/
def pf (x y : List Int) (i j : Nat) : Nat := lev (x.take i) (y.take j)
theorem pf_zero (x y : List Int) (j : Nat) (hj : j ≤ y.length) : pf x y 0 j = j := by unfold pf; rw [List.take_zero, lev_nil]; simp; omega
theorem pf_zero' (x y : List Int) (i : Nat) (hi : i ≤ x.length) : pf x y i 0 = i := by unfold pf; rw [List.take_zero, lev_nil']; simp; omega
theorem pf_same {x y : List Int} {i j : Nat} (hi : i < x.length) (hj : j < y.length) (h : x[i] = y[j]) : pf x y (i + 1) (j + 1) = pf x y i j := by
  unfold pf
  rw [List.take_succ_eq_append_getElem hi, List.take_succ_eq_append_getElem hj, h, lev_snoc]
theorem pf_ne {x y : List Int} {i j : Nat} (hi : i < x.length) (hj : j < y.length) (h : x[i] ≠ y[j]) : pf x y (i + 1) (j + 1) = 1 + min (pf x y i (j + 1)) (pf x y (i + 1) j) := by
  unfold pf
  rw [List.take_succ_eq_append_getElem hi, List.take_succ_eq_append_getElem hj, lev_ne_snoc _ _ h]
theorem pf_all (x y : List Int) : pf x y x.length y.length = lev x y := by unfold pf; rw [List.take_length, List.take_length]

end Go.Proofs.Ytlbgfcbhpmhhpaa
