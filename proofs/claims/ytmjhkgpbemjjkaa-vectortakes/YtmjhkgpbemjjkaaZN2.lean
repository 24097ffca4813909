/-
  What is taken is laid again as it was. Pure.
-/
import Derived.Test.YtmjhkgpbemjjkaaZN1
set_option linter.unusedSimpArgs false
set_option linter.unusedVariables false
namespace Go.Proofs.Ytmjhkgpbemjjkaa
open Go.RowKit Go.Lib

theorem tnL_back : ∀ (l : List Nat) (i s V k : Nat), i ≤ 8 → (∀ b ∈ l, b < 256) → tnL i s l = (0, V, k) → ∃ m, V = s + m * 128 ^ i ∧ k = i + (num m).length ∧ l.take (num m).length = num m ∧ m < 128 ^ (9 - i) ∧ (m ≠ 0 ∨ i = 0)
  | [], i, s, V, k, _, _, h => by simp [tnL] at h
  | c :: l, i, s, V, k, hi, hb, h => by
    have hc := hb c (by simp)
    rw [tnL] at h
    by_cases h1 : c < 128
    · rw [if_pos h1] at h
      by_cases h2 : c = 0 ∧ 0 < i
      · rw [if_pos h2] at h; simp at h
      · rw [if_neg h2, Nat.mod_eq_of_lt h1] at h
        simp only [Prod.mk.injEq, true_and] at h
        refine ⟨c, h.1.symm, ?_, ?_, ?_, by omega⟩
        · rw [num_last c h1]; simp; omega
        · rw [num_last c h1]; simp
        · have h3 : 128 ^ 1 ≤ 128 ^ (9 - i) := Nat.pow_le_pow_right (by decide) (by omega)
          simp only [Nat.pow_one] at h3
          omega
    · rw [if_neg h1] at h
      by_cases h2 : i = 8
      · rw [if_pos h2] at h; simp at h
      · rw [if_neg h2] at h
        obtain ⟨m, e1, e2, e3, e4, e5⟩ := tnL_back l (i + 1) _ V k (by omega) (fun b hb' => hb b (by simp [hb'])) h
        have hm0 : m ≠ 0 := by rcases e5 with h | h; exact h; omega
        have hM : c % 128 + m * 128 < 128 ^ (9 - i) := by
          have h9 : 128 ^ (9 - i) = 128 ^ (9 - (i + 1)) * 128 := by rw [← Nat.pow_succ]; congr 1; omega
          rw [h9]
          have : (m + 1) * 128 ≤ 128 ^ (9 - (i + 1)) * 128 := Nat.mul_le_mul_right _ (by omega)
          omega
        have hM2 : c % 128 + m * 128 < 9223372036854775808 := by
          have h9 : (128 : Nat) ^ (9 - i) ≤ 128 ^ 9 := Nat.pow_le_pow_right (by decide) (by omega)
          have h10 : (128 : Nat) ^ 9 = 9223372036854775808 := by decide
          omega
        have hn : num (c % 128 + m * 128) = c :: num m := by
          rw [num_step _ hM2 (by omega), show (c % 128 + m * 128) % 128 + 128 = c by omega, show (c % 128 + m * 128) / 128 = m by omega]
        refine ⟨c % 128 + m * 128, ?_, ?_, ?_, hM, .inl (by omega)⟩
        · rw [e1, Nat.pow_succ, Nat.mul_comm (128 ^ i) 128, ← Nat.mul_assoc, Nat.add_assoc, ← Nat.add_mul]
        · rw [hn, List.length_cons]; omega
        · rw [hn, List.length_cons, List.take_succ_cons, e3]
theorem rNum_back {l : List Nat} (hb : ∀ b ∈ l, b < 256) (h : (rNum l 0).2.2 = 0) : l = num (rNum l 0).1 ++ (rNum l 0).2.1 := by
  have e : rn0 l 0 = tnL 0 0 l := by unfold rn0; rw [if_neg (by simp)]; rfl
  unfold rNum at h ⊢
  rw [e] at h ⊢
  simp only at h ⊢
  obtain ⟨E, V, k, hT⟩ : ∃ E V k, tnL 0 0 l = (E, V, k) := ⟨_, _, _, rfl⟩
  rw [hT] at h ⊢
  simp only at h ⊢
  subst h
  obtain ⟨m, e1, e2, e3, _⟩ := tnL_back l 0 0 V k (by omega) hb hT
  have hV : V = m := by rw [e1]; simp
  subst hV
  have hk : k = (num V).length := by omega
  rw [hk]
  conv => lhs; rw [← List.take_append_drop (num V).length l]
  rw [e3]
theorem tkN_back {l rest : List Nat} {least most e : Int} {n : Nat} (hb : ∀ b ∈ l, b < 256) (h : tkN (l, 0) least most = ((n, 0), (rest, e))) : l = num n ++ rest ∧ e = 0 ∧ least ≤ (n : Int) ∧ (n : Int) ≤ most := by
  have hk := tkN_ok (st := (l, 0)) (least := least) (most := most) (by rw [h])
  rw [h] at hk
  unfold tkN at h
  simp only at h
  by_cases h1 : (rNum l 0).2.2 = 0
  · rw [if_neg (by simpa using h1)] at h
    split at h
    · simp at h
    · simp only [Prod.mk.injEq, and_true] at h
      have hr := rNum_back hb h1
      refine ⟨?_, ?_, hk⟩
      · rw [← h.1, show rest = (rNum l 0).2.1 by rw [h.2]]
        exact hr
      · rw [h.2] at h1; exact h1
  · rw [if_pos h1] at h
    simp only [Prod.mk.injEq] at h
    exact absurd h.1.2 h1
theorem tkL_back : ∀ (n : Nat) (site : Int) (acc : List (Int × Int)) (l : List Nat) (R : List (Int × Int)) (rest : List Nat) (e : Int), (∀ b ∈ l, b < 256) → TkI acc site → tkL n site acc (l, 0) = ((R, 0), (rest, e)) → ∃ d, R = acc ++ d ∧ d.length = n ∧ l = pb d ++ rest ∧ e = 0 ∧ vec (sy R) = R
  | 0, site, acc, l, R, rest, e, hb, hI, h => by
    simp only [tkL, Prod.mk.injEq, and_true] at h
    obtain ⟨rfl, rfl, rfl⟩ := h
    exact ⟨[], by simp, rfl, by simp [pb], rfl, hI.same⟩
  | n + 1, site, acc, l, R, rest, e, hb, hI, h => by
    obtain ⟨⟨⟨a, ea⟩, st2⟩, hA⟩ : ∃ A, tkN (l, 0) (site + 1) 16 = A := ⟨_, rfl⟩
    by_cases hea : ea = 0
    · subst hea
      obtain ⟨l2, e2⟩ := st2
      obtain ⟨q1, q2, q3, q4⟩ := tkN_back hb hA
      subst q2
      have hb2 : ∀ x ∈ l2, x < 256 := fun x hx => hb x (by rw [q1]; simp [hx])
      obtain ⟨⟨⟨b, eb⟩, st3⟩, hB⟩ : ∃ B, tkN (l2, 0) 1 2147483647 = B := ⟨_, rfl⟩
      by_cases heb : eb = 0
      · subst heb
        obtain ⟨l3, e3⟩ := st3
        obtain ⟨r1, r2, r3, r4⟩ := tkN_back hb2 hB
        subst r2
        rw [tkL_good hA hB] at h
        obtain ⟨d, s1, s2, s3, s4, s5⟩ := tkL_back n _ _ l3 R rest e (fun x hx => hb2 x (by rw [r1]; simp [hx])) (hI.next q3 q4 r3 r4) h
        refine ⟨((a : Int), (b : Int)) :: d, by rw [s1]; simp, by simp [s2], ?_, s4, s5⟩
        rw [q1, r1, s3]
        simp [pb, List.append_assoc]
      · rw [tkL_bad2 hA hB heb] at h
        simp only [Prod.mk.injEq] at h
        exact absurd h.1.2 heb
    · rw [tkL_bad1 hA hea] at h
      simp only [Prod.mk.injEq] at h
      exact absurd h.1.2 hea
theorem takeV_form {l rest : List Nat} {R : List (Int × Int)} {e : Int} (hb : ∀ b ∈ l, b < 256) (h : takeV (l, 0) = ((R, 0), (rest, e))) : l = num R.length ++ pb R ++ rest ∧ e = 0 ∧ vec (sy R) = R := by
  obtain ⟨⟨⟨a, ea⟩, st2⟩, hA⟩ : ∃ A, tkN (l, 0) 0 16 = A := ⟨_, rfl⟩
  unfold takeV at h
  rw [hA] at h
  simp only at h
  by_cases hea : ea = 0
  · subst hea
    rw [if_neg (by simp)] at h
    obtain ⟨l2, e2⟩ := st2
    obtain ⟨q1, q2, q3, q4⟩ := tkN_back hb hA
    subst q2
    obtain ⟨d, s1, s2, s3, s4, s5⟩ := tkL_back a 0 [] l2 R rest e (fun x hx => hb x (by rw [q1]; simp [hx])) TkI.none h
    rw [List.nil_append] at s1
    subst s1
    refine ⟨?_, s4, s5⟩
    rw [q1, s3, s2]
    simp [List.append_assoc]
  · rw [if_pos hea] at h
    simp only [Prod.mk.injEq] at h
    exact absurd h.1.2 hea

end Go.Proofs.Ytmjhkgpbemjjkaa
