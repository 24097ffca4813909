/-
  Numbers and vectors as bytes, laid and taken again. Pure.
-/
import Derived.Test.YtmjhkgpbemjjkaaZV7
set_option linter.unusedSimpArgs false
set_option linter.unusedVariables false
namespace Go.Proofs.Ytmjhkgpbemjjkaa
open Go.RowKit Go.Lib

theorem tnL_num : ∀ (f n i s : Nat) (rest : List Nat), n < 128 ^ (f + 1) → i ≤ 8 → n < 128 ^ (9 - i) → (n ≠ 0 ∨ i = 0) → tnL i s (numF f n ++ rest) = (0, s + n * 128 ^ i, i + (numF f n).length)
  | 0, n, i, s, rest, h, hi, hn, h0 => by
    simp only [Nat.zero_add, Nat.pow_one] at h
    rw [numF, List.cons_append, tnL, if_pos h, if_neg (by rintro ⟨rfl, h1⟩; rcases h0 with h2 | h2 <;> omega), Nat.mod_eq_of_lt h]
    rfl
  | f + 1, n, i, s, rest, h, hi, hn, h0 => by
    rw [numF]
    by_cases h1 : n < 128
    · rw [if_pos h1, List.cons_append, tnL, if_pos h1, if_neg (by rintro ⟨rfl, h1⟩; rcases h0 with h2 | h2 <;> omega), Nat.mod_eq_of_lt h1]
      rfl
    · have hi8 : i ≠ 8 := fun e => by subst e; simp at hn; omega
      rw [if_neg h1, List.cons_append, tnL, if_neg (by omega), if_neg hi8]
      have e1 : (n % 128 + 128) % 128 = n % 128 := by omega
      rw [e1, tnL_num f (n / 128) (i + 1) _ rest (Nat.div_lt_of_lt_mul (by rw [Nat.mul_comm, ← Nat.pow_succ]; exact h)) (by omega) (Nat.div_lt_of_lt_mul (by rw [Nat.mul_comm, ← Nat.pow_succ, show (9 - (i + 1)).succ = 9 - i by omega]; exact hn)) (.inl (by omega))]
      have e2 : s + n % 128 * 128 ^ i + n / 128 * 128 ^ (i + 1) = s + n * 128 ^ i := by
        rw [Nat.pow_succ, Nat.mul_comm (128 ^ i) 128, ← Nat.mul_assoc, Nat.add_assoc, ← Nat.add_mul]
        congr 2
        omega
      rw [e2, List.length_cons]
      congr 2
      omega
theorem rNum_num {n : Nat} (h : n < 9223372036854775808) (rest : List Nat) : rNum (num n ++ rest) 0 = (n, rest, 0) := by
  have e := tnL_num 10 n 0 0 rest (by have : (128 : Nat) ^ 11 = 151115727451828646838272 := by decide
                                      omega) (by omega) (by have : (128 : Nat) ^ 9 = 9223372036854775808 := by decide
                                                            show n < 128 ^ 9
                                                            omega) (.inr rfl)
  unfold rNum rn0
  rw [if_neg (by simp)]
  unfold tn num
  rw [e]
  simp

/-- what is laid of Dots, as bytes -/
def pb (d : List (Int × Int)) : List Nat := d.flatMap fun x => num x.1.toNat ++ num x.2.toNat
theorem wNum_pos (L : List Nat) {n : Int} (h : 0 ≤ n) : wNum (L, 0) n = (L ++ num n.toNat, 0) := by
  unfold wNum
  rw [if_neg (by simp), if_neg (by omega)]
theorem putS_pb : ∀ (d : List (Int × Int)) (L : List Nat), (∀ x ∈ d, 0 ≤ x.1 ∧ 0 ≤ x.2) → putS (L, 0) d = (L ++ pb d, 0)
  | [], L, _ => by simp [putS, pb]
  | x :: d, L, h => by
    have hx := h x (by simp)
    show putS (wNum (wNum (L, 0) x.1) x.2) d = _
    rw [wNum_pos L hx.1, wNum_pos _ hx.2, putS_pb d _ (fun y hy => h y (by simp [hy]))]
    simp [pb, List.append_assoc]
theorem putV_pb (d : List (Int × Int)) (L : List Nat) (h : ∀ x ∈ d, 0 ≤ x.1 ∧ 0 ≤ x.2) : putV (L, 0) d = (L ++ num d.length ++ pb d, 0) := by
  unfold putV
  rw [wNum_pos L (by omega), putS_pb d _ h]
  simp
theorem tkN_num {n : Nat} (rest : List Nat) {least most : Int} (h1 : least ≤ (n : Int)) (h2 : (n : Int) ≤ most) (h3 : n < 9223372036854775808) : tkN (num n ++ rest, 0) least most = ((n, 0), (rest, 0)) := by
  unfold tkN
  simp only
  rw [rNum_num h3]
  simp only
  rw [if_neg (by simp), if_neg (by omega)]

theorem tkL_pb : ∀ (d acc : List (Int × Int)) (site : Int) (rest : List Nat), 0 ≤ site → chkF site d = 0 → tkL d.length site acc (pb d ++ rest, 0) = ((acc ++ d, 0), (rest, 0))
  | [], acc, site, rest, _, _ => by simp [tkL, pb]
  | x :: d, acc, site, rest, hs, h => by
    obtain ⟨x0, x1⟩ := x
    rw [chkF] at h
    by_cases h1 : 1 ≤ x0 ∧ x0 ≤ 16
    · rw [if_neg (by simpa using h1)] at h
      by_cases h2 : 1 ≤ x1 ∧ x1 ≤ 2147483647
      · rw [if_neg (by simpa using h2)] at h
        by_cases h3 : x0 ≤ site
        · rw [if_pos h3] at h; simp at h
        · rw [if_neg h3] at h
          obtain ⟨a, rfl⟩ : ∃ a : Nat, x0 = (a : Int) := ⟨x0.toNat, by omega⟩
          obtain ⟨b, rfl⟩ : ∃ b : Nat, x1 = (b : Int) := ⟨x1.toNat, by omega⟩
          have e : pb (((a : Int), (b : Int)) :: d) ++ rest = num a ++ (num b ++ (pb d ++ rest)) := by simp [pb, List.append_assoc]
          rw [e, List.length_cons, tkL_good (tkN_num _ (by omega) (by omega) (by omega)) (tkN_num _ (by omega) (by omega) (by omega)), tkL_pb d _ _ rest (by omega) h]
          simp
      · rw [if_pos (by simpa using h2)] at h; simp at h
    · rw [if_pos (by simpa using h1)] at h; simp at h
/-- what was laid of a vector is taken again -/
theorem takeV_back {s : Nat → Int} (hg : Good s) (rest : List Nat) : takeV (num (vec s).length ++ pb (vec s) ++ rest, 0) = ((vec s, 0), (rest, 0)) := by
  have hl : (vec s).length ≤ 16 := by
    have h1 : vec s = vecN s 17 := rfl
    have : (vecN s 17).length ≤ 16 := by
      have h17 : ∀ k, (vecN s (k + 1)).length ≤ k := by
        intro k
        induction k with
        | zero => rw [vecN_neg (by rw [hg.zero]; omega)]; simp [vecN]
        | succ k ih => rw [vecN_step]; split <;> simp <;> omega
      exact h17 16
    rw [h1]; exact this
  have e := tkN_num (n := (vec s).length) (pb (vec s) ++ rest) (least := 0) (most := 16) (by omega) (by omega) (by omega)
  rw [List.append_assoc]
  unfold takeV
  rw [e]
  simp only
  rw [if_neg (by simp), tkL_pb (vec s) [] 0 rest (by omega) (chk_vec hg)]
  simp

end Go.Proofs.Ytmjhkgpbemjjkaa
