/-
  Plain facts: the reading of a quoted text, step by step; what is read of a text in quotes is the text.
-/
import Derived.Test.YticjilkcobpcjaaDoorZPQ
set_option linter.unusedSimpArgs false
set_option linter.unusedVariables false
namespace Go.Proofs.YticjilkcobpcjaaDoor
open Go.Lib

theorem hxR_snd (s : ByteArray) (i : Nat) : ∀ (f n k : Nat), k ≤ (hxR s i f n k).2 ∧ (hxR s i f n k).2 ≤ k + f ∧ (i + k ≤ s.size → i + (hxR s i f n k).2 ≤ s.size)
  | 0, n, k => by simp [hxR]
  | f + 1, n, k => by
    unfold hxR
    split
    · rename_i h
      have := hxR_snd s i f (16 * n + dgV (by_ s (i + k))) (k + 1)
      refine ⟨by omega, by omega, fun hk => this.2.2 (by omega)⟩
    · exact ⟨Nat.le_refl _, by omega, fun hk => hk⟩

theorem byteE_n {s : ByteArray} {i : Nat} {x : List UInt8} {n : Nat} (h : byteE s i = some (x, n)) : n = 4 ∧ i + 2 ≤ s.size ∧ x.length ≤ 4 := by
  unfold byteE at h
  split at h
  · rename_i h2
    have := (hxR_snd s i 2 0 0)
    by_cases hi : i ≤ s.size
    · cases h
      exact ⟨rfl, by have := this.2.2 (by omega); omega, by simp⟩
    · unfold hxR at h2
      rw [if_neg (by omega)] at h2
      simp at h2
  · cases h

theorem runeE_n {s : ByteArray} {i : Nat} {x : List UInt8} {n : Nat} (h : runeE s i = some (x, n)) : 5 ≤ n ∧ i + n ≤ s.size + 3 ∧ x.length ≤ 4 := by
  unfold runeE at h
  simp only at h
  split at h
  · cases h
  · rename_i h1
    split at h
    · rename_i h2
      simp only [Option.some.injEq, Prod.mk.injEq] at h
      obtain ⟨hx, hn⟩ := h
      rw [← hx]
      exact ⟨by omega, by omega, encL_le4 _⟩
    · cases h

theorem escE_n {s : ByteArray} {i : Nat} {x : List UInt8} {n : Nat} (h : escE s i = some (x, n)) : 2 ≤ n ∧ i + n ≤ s.size ∧ x.length ≤ 4 := by
  unfold escE at h
  split at h
  · rename_i h1
    (repeat' split at h) <;> first
      | (cases h; exact ⟨by omega, by omega, by simp⟩)
      | (have := byteE_n h; exact ⟨by omega, by omega, by omega⟩)
      | (have := runeE_n h; exact ⟨by omega, by omega, by omega⟩)
      | cases h
  · cases h

theorem rdF_fuel (s : ByteArray) : ∀ (f g i : Nat) (acc : List UInt8), s.size ≤ i + f → s.size ≤ i + g → rdF s f i acc = rdF s g i acc
  | 0, 0, i, acc, _, _ => rfl
  | 0, g + 1, i, acc, h, _ => by unfold rdF; rw [if_neg (by omega)]
  | f + 1, 0, i, acc, _, h => by unfold rdF; rw [if_neg (by omega)]
  | f + 1, g + 1, i, acc, h, h2 => by
    unfold rdF
    split
    · rename_i hi
      split
      · rfl
      · split
        · split
          · rfl
          · rename_i x n he
            have := escE_n he
            exact rdF_fuel s f g _ _ (by omega) (by omega)
        · split
          · rfl
          · have := wd_pos s i hi
            exact rdF_fuel s f g _ _ (by omega) (by omega)
    · rfl

/-- the reading from a place on -/
def rdA (s : ByteArray) (i : Nat) (acc : List UInt8) : List UInt8 × Nat × Bool := rdF s (s.size - i) i acc
theorem rdA_zero (s : ByteArray) (i : Nat) : rdE s i = rdA s i [] := rfl
theorem rdA_of (s : ByteArray) (f i : Nat) (acc : List UInt8) (h : s.size ≤ i + f) : rdF s f i acc = rdA s i acc := rdF_fuel s _ _ _ _ h (by omega)

theorem rdA_end {s : ByteArray} {i : Nat} {acc : List UInt8} (h : ¬ i < s.size) : rdA s i acc = ([], s.size, false) := by
  unfold rdA
  cases hc : s.size - i with
  | zero => rfl
  | succ n => omega
theorem rdA_quote {s : ByteArray} {i : Nat} {acc : List UInt8} (h : i < s.size) (h1 : by_ s i = 34) : rdA s i acc = (acc, i + 1, true) := by
  unfold rdA
  obtain ⟨n, hn⟩ : ∃ n, s.size - i = n + 1 := ⟨s.size - i - 1, by omega⟩
  rw [hn]; unfold rdF; rw [if_pos h, if_pos h1]
theorem rdA_none {s : ByteArray} {i : Nat} {acc : List UInt8} (h : i < s.size) (h1 : by_ s i = 92) (he : escE s i = none) : rdA s i acc = ([], i, false) := by
  unfold rdA
  obtain ⟨n, hn⟩ : ∃ n, s.size - i = n + 1 := ⟨s.size - i - 1, by omega⟩
  rw [hn]; unfold rdF; rw [if_pos h, if_neg (by omega), if_pos h1, he]
theorem rdA_some {s : ByteArray} {i : Nat} {acc x : List UInt8} {k : Nat} (h : i < s.size) (h1 : by_ s i = 92) (he : escE s i = some (x, k)) : rdA s i acc = rdA s (i + k) (acc ++ x) := by
  have := escE_n he
  conv => lhs; unfold rdA
  obtain ⟨n, hn⟩ : ∃ n, s.size - i = n + 1 := ⟨s.size - i - 1, by omega⟩
  rw [hn]; unfold rdF; rw [if_pos h, if_neg (by omega), if_pos h1, he]
  exact rdA_of s _ _ _ (by omega)
theorem rdA_raw {s : ByteArray} {i : Nat} {acc : List UInt8} (h : i < s.size) (h1 : by_ s i ≠ 34) (h2 : by_ s i ≠ 92) (hr : rawB s i = true) : rdA s i acc = ([], i, false) := by
  unfold rdA
  obtain ⟨n, hn⟩ : ∃ n, s.size - i = n + 1 := ⟨s.size - i - 1, by omega⟩
  rw [hn]; unfold rdF; rw [if_pos h, if_neg h1, if_neg h2, if_pos hr]
theorem rdA_rune {s : ByteArray} {i : Nat} {acc : List UInt8} (h : i < s.size) (h1 : by_ s i ≠ 34) (h2 : by_ s i ≠ 92) (hr : rawB s i = false) : rdA s i acc = rdA s (i + wd s i) (acc ++ encL (rn s i : Nat)) := by
  have := wd_pos s i h
  conv => lhs; unfold rdA
  obtain ⟨n, hn⟩ : ∃ n, s.size - i = n + 1 := ⟨s.size - i - 1, by omega⟩
  rw [hn]; unfold rdF; rw [if_pos h, if_neg h1, if_neg h2, if_neg (by simp [hr])]
  exact rdA_of s _ _ _ (by omega)

/-- how it ends -/
theorem rdA_bounds (s : ByteArray) (f : Nat) : ∀ (i : Nat) (acc : List UInt8), s.size - i ≤ f → i ≤ s.size → (rdA s i acc).2.1 ≤ s.size ∧ i ≤ (rdA s i acc).2.1 ∧ (rdA s i acc).1.length ≤ acc.length + 4 * (s.size - i) ∧ ((rdA s i acc).2.2 = false → (rdA s i acc).1 = []) ∧ ((rdA s i acc).2.2 = true → i < (rdA s i acc).2.1) := by
  induction f with
  | zero =>
    intro i acc h hi
    rw [rdA_end (by omega)]; exact ⟨Nat.le_refl _, hi, Nat.zero_le _, fun _ => rfl, fun h => by simp at h⟩
  | succ g IH =>
    intro i acc h hi
    by_cases hlt : i < s.size
    · by_cases h1 : by_ s i = 34
      · rw [rdA_quote hlt h1]; exact ⟨hlt, Nat.le_succ _, Nat.le_add_right _ _, fun h => by simp at h, fun _ => Nat.lt_succ_self _⟩
      · by_cases h2 : by_ s i = 92
        · cases he : escE s i with
          | none => rw [rdA_none hlt h2 he]; exact ⟨hi, Nat.le_refl _, Nat.zero_le _, fun _ => rfl, fun h => by simp at h⟩
          | some v =>
            obtain ⟨x, k⟩ := v
            have hn := escE_n he
            rw [rdA_some hlt h2 he]
            have ih := IH (i + k) (acc ++ x) (by omega) (by omega)
            rw [List.length_append] at ih
            exact ⟨ih.1, by omega, by omega, ih.2.2.2.1, fun ht => by have := ih.2.2.2.2 ht; omega⟩
        · cases hr : rawB s i with
          | true => rw [rdA_raw hlt h1 h2 hr]; exact ⟨hi, Nat.le_refl _, Nat.zero_le _, fun _ => rfl, fun h => by simp at h⟩
          | false =>
            have hw := wd_pos s i hlt
            have hw2 := wd_le s i hlt
            have he4 := encL_le4 ((rn s i : Nat) : Int)
            rw [rdA_rune hlt h1 h2 hr]
            have ih := IH (i + wd s i) (acc ++ encL (rn s i : Nat)) (by omega) (by omega)
            rw [List.length_append] at ih
            exact ⟨ih.1, by omega, by omega, ih.2.2.2.1, fun ht => by have := ih.2.2.2.2 ht; omega⟩
    · rw [rdA_end hlt]; exact ⟨Nat.le_refl _, hi, Nat.zero_le _, fun _ => rfl, fun h => by simp at h⟩

end Go.Proofs.YticjilkcobpcjaaDoor
