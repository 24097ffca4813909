/-
  Plain facts: what no clump has.
-/
import Derived.Test.YtcagfapdhopmjaaTrn
set_option linter.unusedSimpArgs false
set_option linter.unusedVariables false
namespace Go.Proofs.Ytcagfapdhopmjaa
open Go.RowKit Go.Lib

/-- classes without a break between them -/
def CL (X : List Int) : Prop := ∀ (pre : List Int) (x y : Int) (rest : List Int), X = pre ++ x :: y :: rest → bk pre.reverse x y = false

theorem bk_flag2 {R : List Int} {a : Int} (h : bk R a 6 = false) : a = 6 ∧ evR R = true := by
  unfold bk at h
  by_cases h1 : hardC a = true
  · unfold hardC at h1 h; simp at h1; simp [h1] at h
  · by_cases h6 : a = 6
    · subst h6
      simp [hardC, hang] at h
      exact ⟨rfl, h⟩
    · simp [hang, h6, show hardC 6 = false from rfl, h1] at h
theorem bk_pic {R : List Int} {a : Int} (h : bk R a 12 = false) : a = 4 := by
  unfold bk at h
  by_cases h1 : hardC a = true
  · unfold hardC at h1 h; simp at h1; simp [h1] at h
  · by_cases h6 : a = 4
    · exact h6
    · simp [hang, h6, show hardC 12 = false from rfl, h1] at h
theorem bk_hard {R : List Int} {a b : Int} (h : bk R a b = false) (hh : hardC a = true ∨ hardC b = true) : a = 1 ∧ b = 2 := by
  unfold bk at h
  by_cases e : a = 1 ∧ b = 2
  · exact e
  · have : (a == 1 && b == 2) = false := by
      rw [Bool.eq_false_iff]
      intro e2
      simp at e2
      exact e e2
    rw [this] at h
    rcases hh with hh | hh <;> simp [hh] at h

theorem cl_flag {X : List Int} (h : CL X) {pre rest : List Int} (e : X = pre ++ 6 :: rest) : pre.length ≤ 1 := by
  rcases List.eq_nil_or_concat pre with rfl | ⟨p, y, rfl⟩
  · simp
  · rw [List.concat_eq_append] at e ⊢
    obtain ⟨rfl, hev⟩ := bk_flag2 (h p y 6 rest (by rw [e]; simp))
    rcases List.eq_nil_or_concat p with rfl | ⟨q, z, rfl⟩
    · simp
    · rw [List.concat_eq_append] at e hev
      obtain ⟨rfl, hev2⟩ := bk_flag2 (h q z 6 (6 :: rest) (by rw [e]; simp))
      rw [List.reverse_append] at hev
      simp [evR, hev2] at hev

/-- the counts of the law -/
def nF (l : List Int) : Nat := l.countP (fun c => c == 6)
def nH (l : List Int) : Nat := l.countP hardC
def stP (l : List Int) : Int × Nat := l.foldl (fun (p : Int × Nat) c => (c, if c = 12 ∧ p.1 ≠ 4 then p.2 + 1 else p.2)) (0, 0)

theorem nF_snoc (l : List Int) (c : Int) : nF (l ++ [c]) = nF l + if c = 6 then 1 else 0 := by
  unfold nF; rw [List.countP_append]; simp [List.countP_cons]
theorem nH_snoc (l : List Int) (c : Int) : nH (l ++ [c]) = nH l + if hardC c then 1 else 0 := by
  unfold nH; rw [List.countP_append]; simp [List.countP_cons]
theorem stP_snoc (l : List Int) (c : Int) : stP (l ++ [c]) = (c, if c = 12 ∧ (stP l).1 ≠ 4 then (stP l).2 + 1 else (stP l).2) := by
  unfold stP; rw [List.foldl_append]; rfl

theorem cl_nF {X : List Int} (h : CL X) : nF X ≤ 2 := by
  match X, h with
  | [], _ => decide
  | [a], _ => unfold nF; rw [List.countP_cons]; simp; split <;> omega
  | a :: b :: rest, h =>
    have hr : rest.countP (fun c => c == 6) = 0 := by
      rw [List.countP_eq_zero]
      intro c hc
      simp only [beq_iff_eq]
      intro e
      subst e
      obtain ⟨p, q, e2⟩ := List.append_of_mem hc
      have := cl_flag h (pre := a :: b :: p) (rest := q) (by rw [e2]; rfl)
      simp at this
    unfold nF
    rw [List.countP_cons, List.countP_cons, hr]
    split <;> split <;> omega

theorem cl_nP_rest {X : List Int} (h : CL X) : ∀ (rest pre : List Int) (x : Int) (n : Nat), X = pre ++ x :: rest → (rest.foldl (fun (p : Int × Nat) c => (c, if c = 12 ∧ p.1 ≠ 4 then p.2 + 1 else p.2)) (x, n)).2 = n
  | [], pre, x, n, _ => rfl
  | y :: rest, pre, x, n, e => by
    have hb := h pre x y rest e
    have hn : (if y = 12 ∧ x ≠ 4 then n + 1 else n) = n := by
      rw [if_neg]
      rintro ⟨rfl, h4⟩
      exact h4 (bk_pic hb)
    rw [List.foldl_cons]
    show (rest.foldl _ (y, if y = 12 ∧ x ≠ 4 then n + 1 else n)).2 = n
    rw [hn]
    exact cl_nP_rest h rest (pre ++ [x]) y n (by rw [e]; simp)
theorem cl_nP {X : List Int} (h : CL X) : (stP X).2 ≤ 1 := by
  match X, h with
  | [], _ => decide
  | x :: rest, h =>
    unfold stP
    rw [List.foldl_cons]
    have := cl_nP_rest h rest [] x (if x = 12 ∧ (0 : Int) ≠ 4 then 0 + 1 else 0) rfl
    show (rest.foldl _ (x, if x = 12 ∧ (0 : Int) ≠ 4 then 0 + 1 else 0)).2 ≤ 1
    rw [this]
    split <;> omega

theorem cl_hard {X : List Int} (h : CL X) (hh : 0 < nH X) (hl : 1 < X.length) : X = [1, 2] := by
  unfold nH at hh
  rw [List.countP_pos_iff] at hh
  obtain ⟨c, hc, hcc⟩ := hh
  have two : ∀ (x y : Int) (pre rest : List Int), X = pre ++ x :: y :: rest → x = 1 → y = 2 → X = [1, 2] := by
    intro x y pre rest e hx hy
    subst hx hy
    rcases List.eq_nil_or_concat pre with rfl | ⟨p, z, rfl⟩
    · cases rest with
      | nil => exact e
      | cons z rest =>
        have := bk_hard (h [1] 2 z rest (by rw [e]; rfl)) (.inl rfl)
        omega
    · rw [List.concat_eq_append] at e
      have := bk_hard (h p z 1 (2 :: rest) (by rw [e]; simp)) (.inr rfl)
      omega
  obtain ⟨p, q, e⟩ := List.append_of_mem hc
  cases q with
  | cons y q =>
    obtain ⟨h1, h2⟩ := bk_hard (h p c y q e) (.inl hcc)
    exact two c y p q e h1 h2
  | nil =>
    rcases List.eq_nil_or_concat p with rfl | ⟨p', z, rfl⟩
    · rw [e] at hl; simp at hl
    · rw [List.concat_eq_append] at e
      have e2 : X = p' ++ z :: c :: [] := by rw [e]; simp
      obtain ⟨h1, h2⟩ := bk_hard (h p' z c [] e2) (.inr hcc)
      exact two z c p' [] e2 h1 h2

/-- a clump's classes -/
theorem clump_CL {s : ByteArray} {a b : Nat} (ha : a ∈ brL s) (hb : b ∈ brL s) (hab : a < b) (hno : ∀ q ∈ brL s, q ≤ a ∨ b ≤ q) : CL ((allL (s.extract a b)).map (C (s.extract a b))) := by
  intro pre x y rest e
  have hbs := brL_le hb
  have hz := size_ext s a b hbs
  obtain ⟨P, Q, e1, e2, e3⟩ := List.map_eq_append_iff.1 e
  obtain ⟨j, Q1, rfl, hx, e4⟩ := List.map_eq_cons_iff.1 e3
  obtain ⟨i, Q2, rfl, hy, e5⟩ := List.map_eq_cons_iff.1 e4
  have hm := mem_brL e1
  have hi := mem_allL.1 (show i ∈ allL (s.extract a b) by rw [e1]; simp)
  have hso := allL_sorted (s.extract a b)
  rw [e1] at hso
  have hji : j < i := (List.pairwise_cons.1 (List.pairwise_append.1 hso).2.1).1 i (by simp)
  have hsi : Sync s (a + i) := fun q hq ho => by
    by_cases hqa : q < a
    · have := brL_sync ha q hqa ho; omega
    · have hqb : q + wd s q ≤ b := brL_sync hb q (by omega) ho
      have hd := dec_down s a b (q - a) hbs (by omega) (by rw [show a + (q - a) = q by omega]; exact ho) (by rw [show a + (q - a) = q by omega]; exact hqb)
      rw [show a + (q - a) = q by omega] at hd
      have := hi.2 (q - a) (by omega) (by rw [ok_same hd]; exact ho)
      rw [wd_same hd] at this
      omega
  have hp := br_part ha (brL_sync hb) hbs (show a < a + i by omega) (by omega) hsi
  rw [show a + i - a = i by omega] at hp
  cases hbk : bk pre.reverse x y with
  | false => rfl
  | true =>
    rw [← e2, ← hx, ← hy] at hbk
    have h1 := hp.1 (hm.2 hbk)
    have := hno _ h1
    omega

theorem cls_one {r : Int} (h : cls r = 1) : r = 13 := by
  unfold cls at h
  repeat' split at h
  all_goals first | assumption | omega
theorem cls_two {r : Int} (h : cls r = 2) : r = 10 := by
  unfold cls at h
  repeat' split at h
  all_goals first | assumption | omega

theorem small_rune {t : ByteArray} {k : Nat} (hk : k < t.size) (h : rn t k < 128) : by_ t k = rn t k ∧ wd t k = 1 := by
  cases ho : okR t k with
  | false => have := (ok_false_iff ho).1; omega
  | true =>
    rcases ok_cases t k hk ho with ⟨_, hr, hw⟩ | ⟨hc, _, _, hr, _⟩ | ⟨hc, _, hg, _, hr, _⟩ | ⟨hc, _, hg, _, _, hr, _⟩
    · exact ⟨hr.symm, hw⟩
    · have := hW2_range hc; omega
    · have hb := hW3_range hc
      have hg' := g1_range (by omega) hg
      by_cases e : by_ t k = 224
      · have := hg'.2.2.1 e; omega
      · omega
    · have hb := hW4_range hc
      have hg' := g1_range (by omega) hg
      by_cases e : by_ t k = 240
      · have := hg'.2.2.2.2.1 e; omega
      · omega

theorem crlf {t : ByteArray} (h : (allL t).map (C t) = [1, 2]) : t.toList = [13, 10] := by
  obtain ⟨i, l, e1, h1, h2⟩ := List.map_eq_cons_iff.1 h
  obtain ⟨j, l2, e2, h3, h4⟩ := List.map_eq_cons_iff.1 h2
  have e3 : l2 = [] := by simpa using h4
  subst e3 e2
  have r1 := cls_one (show cls (rn t i : Nat) = 1 from h1)
  have r2 := cls_two (show cls (rn t j : Nat) = 2 from h3)
  have hi := (mem_allL.1 (show i ∈ allL t by rw [e1]; simp)).1
  have hj := (mem_allL.1 (show j ∈ allL t by rw [e1]; simp)).1
  have hf1 := frm_split t [] 0 i [j] (by rw [← allL_frm]; exact e1)
  have hf2 := frm_split t [i] 0 j [] (by rw [← allL_frm]; exact e1)
  obtain ⟨b1, w1⟩ := small_rune hi (by omega)
  obtain ⟨b2, w2⟩ := small_rune hj (by omega)
  have hi0 : i = 0 := by
    obtain ⟨r, hr⟩ := allL_zero t (by omega)
    rw [hr] at e1; simp at e1; exact e1.1.symm
  subst hi0
  have hj1 : j = 1 := by
    have := hf1.2.2
    rw [w1] at this
    by_cases h : 0 + 1 < t.size
    · rw [frm_step t _ h] at this; simp at this; omega
    · rw [frm_end t _ h] at this; cases this
  subst hj1
  have hsz : t.size = 2 := by
    have := hf2.2.2
    rw [w2] at this
    by_cases h : 1 + 1 < t.size
    · rw [frm_step t _ h] at this; cases this
    · omega
  have hn1 : by_ t 0 = 13 := by omega
  have hn2 : by_ t 1 = 10 := by omega
  rw [ByteArray.toList_eq]
  apply List.ext_getElem
  · simp [hsz]
  · intro k hk1 hk2
    simp at hk1
    have hb := by_get t k (by omega)
    rcases (by omega : k = 0 ∨ k = 1) with rfl | rfl
    · rw [hn1] at hb
      simp
      exact UInt8.toNat_inj.1 hb
    · rw [hn2] at hb
      simp
      exact UInt8.toNat_inj.1 hb

end Go.Proofs.Ytcagfapdhopmjaa
