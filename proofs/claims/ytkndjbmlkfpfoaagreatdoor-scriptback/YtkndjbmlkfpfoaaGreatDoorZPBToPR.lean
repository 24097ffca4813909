/-
  Plain facts: the reading of a quoted text, step by step; what is read of a text in quotes is the text.
-/
import Derived.Test.YtkndjbmlkfpfoaaGreatDoorZPXToPQ

set_option linter.unusedSimpArgs false
set_option linter.unusedVariables false
namespace Go.Proofs.YtkndjbmlkfpfoaaGreatDoor
open Go.Lib

theorem hxR_snd (s : ByteArray) (i : Nat) : ∀ (f n k : Nat), k ≤ (hxR s i f n k).2 ∧ (hxR s i f n k).2 ≤ k + f ∧ (i + k ≤ s.size → i + (hxR s i f n k).2 ≤ s.size)
  | 0, n, k => by simp [hxR]
  | f + 1, n, k => by
    unfold hxR
    split
    · rename_i h
      have := hxR_snd s i f (16 * n + dgV (by_ s (i + k))) (k + 1)
      refine ⟨by omega, by omega, fun hk => this.2.2 (by omega)⟩
    · exact ⟨Nat.le_refl _, by omega, fun hk => hk⟩

theorem byteE_n {s : ByteArray} {i : Nat} {x : List UInt8} {n : Nat} (h : byteE s i = some (x, n)) : n = 4 ∧ i + 2 ≤ s.size ∧ x.length ≤ 4 := by
  unfold byteE at h
  split at h
  · rename_i h2
    have := (hxR_snd s i 2 0 0)
    by_cases hi : i ≤ s.size
    · cases h
      exact ⟨rfl, by have := this.2.2 (by omega); omega, by simp⟩
    · unfold hxR at h2
      rw [if_neg (by omega)] at h2
      simp at h2
  · cases h

theorem runeE_n {s : ByteArray} {i : Nat} {x : List UInt8} {n : Nat} (h : runeE s i = some (x, n)) : 5 ≤ n ∧ i + n ≤ s.size + 3 ∧ x.length ≤ 4 := by
  unfold runeE at h
  simp only at h
  split at h
  · cases h
  · rename_i h1
    split at h
    · rename_i h2
      simp only [Option.some.injEq, Prod.mk.injEq] at h
      obtain ⟨hx, hn⟩ := h
      rw [← hx]
      exact ⟨by omega, by omega, encL_le4 _⟩
    · cases h

theorem escE_n {s : ByteArray} {i : Nat} {x : List UInt8} {n : Nat} (h : escE s i = some (x, n)) : 2 ≤ n ∧ i + n ≤ s.size ∧ x.length ≤ 4 := by
  unfold escE at h
  split at h
  · rename_i h1
    (repeat' split at h) <;> first
      | (cases h; exact ⟨by omega, by omega, by simp⟩)
      | (have := byteE_n h; exact ⟨by omega, by omega, by omega⟩)
      | (have := runeE_n h; exact ⟨by omega, by omega, by omega⟩)
      | cases h
  · cases h

theorem rdF_fuel (s : ByteArray) : ∀ (f g i : Nat) (acc : List UInt8), s.size ≤ i + f → s.size ≤ i + g → rdF s f i acc = rdF s g i acc
  | 0, 0, i, acc, _, _ => rfl
  | 0, g + 1, i, acc, h, _ => by unfold rdF; rw [if_neg (by omega)]
  | f + 1, 0, i, acc, _, h => by unfold rdF; rw [if_neg (by omega)]
  | f + 1, g + 1, i, acc, h, h2 => by
    unfold rdF
    split
    · rename_i hi
      split
      · rfl
      · split
        · split
          · rfl
          · rename_i x n he
            have := escE_n he
            exact rdF_fuel s f g _ _ (by omega) (by omega)
        · split
          · rfl
          · have := wd_pos s i hi
            exact rdF_fuel s f g _ _ (by omega) (by omega)
    · rfl

/-- the reading from a place on -/
def rdA (s : ByteArray) (i : Nat) (acc : List UInt8) : List UInt8 × Nat × Bool := rdF s (s.size - i) i acc
theorem rdA_zero (s : ByteArray) (i : Nat) : rdE s i = rdA s i [] := rfl
theorem rdA_of (s : ByteArray) (f i : Nat) (acc : List UInt8) (h : s.size ≤ i + f) : rdF s f i acc = rdA s i acc := rdF_fuel s _ _ _ _ h (by omega)

theorem rdA_end {s : ByteArray} {i : Nat} {acc : List UInt8} (h : ¬ i < s.size) : rdA s i acc = ([], s.size, false) := by
  unfold rdA
  cases hc : s.size - i with
  | zero => rfl
  | succ n => omega
theorem rdA_quote {s : ByteArray} {i : Nat} {acc : List UInt8} (h : i < s.size) (h1 : by_ s i = 34) : rdA s i acc = (acc, i + 1, true) := by
  unfold rdA
  obtain ⟨n, hn⟩ : ∃ n, s.size - i = n + 1 := ⟨s.size - i - 1, by omega⟩
  rw [hn]; unfold rdF; rw [if_pos h, if_pos h1]
theorem rdA_none {s : ByteArray} {i : Nat} {acc : List UInt8} (h : i < s.size) (h1 : by_ s i = 92) (he : escE s i = none) : rdA s i acc = ([], i, false) := by
  unfold rdA
  obtain ⟨n, hn⟩ : ∃ n, s.size - i = n + 1 := ⟨s.size - i - 1, by omega⟩
  rw [hn]; unfold rdF; rw [if_pos h, if_neg (by omega), if_pos h1, he]
theorem rdA_some {s : ByteArray} {i : Nat} {acc x : List UInt8} {k : Nat} (h : i < s.size) (h1 : by_ s i = 92) (he : escE s i = some (x, k)) : rdA s i acc = rdA s (i + k) (acc ++ x) := by
  have := escE_n he
  conv => lhs; unfold rdA
  obtain ⟨n, hn⟩ : ∃ n, s.size - i = n + 1 := ⟨s.size - i - 1, by omega⟩
  rw [hn]; unfold rdF; rw [if_pos h, if_neg (by omega), if_pos h1, he]
  exact rdA_of s _ _ _ (by omega)
theorem rdA_raw {s : ByteArray} {i : Nat} {acc : List UInt8} (h : i < s.size) (h1 : by_ s i ≠ 34) (h2 : by_ s i ≠ 92) (hr : rawB s i = true) : rdA s i acc = ([], i, false) := by
  unfold rdA
  obtain ⟨n, hn⟩ : ∃ n, s.size - i = n + 1 := ⟨s.size - i - 1, by omega⟩
  rw [hn]; unfold rdF; rw [if_pos h, if_neg h1, if_neg h2, if_pos hr]
theorem rdA_rune {s : ByteArray} {i : Nat} {acc : List UInt8} (h : i < s.size) (h1 : by_ s i ≠ 34) (h2 : by_ s i ≠ 92) (hr : rawB s i = false) : rdA s i acc = rdA s (i + wd s i) (acc ++ encL (rn s i : Nat)) := by
  have := wd_pos s i h
  conv => lhs; unfold rdA
  obtain ⟨n, hn⟩ : ∃ n, s.size - i = n + 1 := ⟨s.size - i - 1, by omega⟩
  rw [hn]; unfold rdF; rw [if_pos h, if_neg h1, if_neg h2, if_neg (by simp [hr])]
  exact rdA_of s _ _ _ (by omega)

/-- how it ends -/
theorem rdA_bounds (s : ByteArray) (f : Nat) : ∀ (i : Nat) (acc : List UInt8), s.size - i ≤ f → i ≤ s.size → (rdA s i acc).2.1 ≤ s.size ∧ i ≤ (rdA s i acc).2.1 ∧ (rdA s i acc).1.length ≤ acc.length + 4 * (s.size - i) ∧ ((rdA s i acc).2.2 = false → (rdA s i acc).1 = []) ∧ ((rdA s i acc).2.2 = true → i < (rdA s i acc).2.1) := by
  induction f with
  | zero =>
    intro i acc h hi
    rw [rdA_end (by omega)]; exact ⟨Nat.le_refl _, hi, Nat.zero_le _, fun _ => rfl, fun h => by simp at h⟩
  | succ g IH =>
    intro i acc h hi
    by_cases hlt : i < s.size
    · by_cases h1 : by_ s i = 34
      · rw [rdA_quote hlt h1]; exact ⟨hlt, Nat.le_succ _, Nat.le_add_right _ _, fun h => by simp at h, fun _ => Nat.lt_succ_self _⟩
      · by_cases h2 : by_ s i = 92
        · cases he : escE s i with
          | none => rw [rdA_none hlt h2 he]; exact ⟨hi, Nat.le_refl _, Nat.zero_le _, fun _ => rfl, fun h => by simp at h⟩
          | some v =>
            obtain ⟨x, k⟩ := v
            have hn := escE_n he
            rw [rdA_some hlt h2 he]
            have ih := IH (i + k) (acc ++ x) (by omega) (by omega)
            rw [List.length_append] at ih
            exact ⟨ih.1, by omega, by omega, ih.2.2.2.1, fun ht => by have := ih.2.2.2.2 ht; omega⟩
        · cases hr : rawB s i with
          | true => rw [rdA_raw hlt h1 h2 hr]; exact ⟨hi, Nat.le_refl _, Nat.zero_le _, fun _ => rfl, fun h => by simp at h⟩
          | false =>
            have hw := wd_pos s i hlt
            have hw2 := wd_le s i hlt
            have he4 := encL_le4 ((rn s i : Nat) : Int)
            rw [rdA_rune hlt h1 h2 hr]
            have ih := IH (i + wd s i) (acc ++ encL (rn s i : Nat)) (by omega) (by omega)
            rw [List.length_append] at ih
            exact ⟨ih.1, by omega, by omega, ih.2.2.2.1, fun ht => by have := ih.2.2.2.2 ht; omega⟩
    · rw [rdA_end hlt]; exact ⟨Nat.le_refl _, hi, Nat.zero_le _, fun _ => rfl, fun h => by simp at h⟩

end Go.Proofs.YtkndjbmlkfpfoaaGreatDoor

/-
  Plain facts: what is read of a text in quotes is the text; no beginning of it is one; it is good and of one line.
-/
set_option linter.unusedSimpArgs false
set_option linter.unusedVariables false
namespace Go.Proofs.YtkndjbmlkfpfoaaGreatDoor
open Go.Lib

theorem hxD_nat (n : Nat) (h : n < 16) : (hxD n).toNat = if n < 10 then 48 + n else 87 + n := by
  unfold hxD; exact u8n _ (by split <;> omega)
theorem dgV_hxD (n : Nat) (h : n < 16) : dgV (hxD n).toNat = n := by
  rw [hxD_nat n h]; unfold dgV; split <;> (repeat' split) <;> omega

/-- the digits of a number, as numbers -/
def dgF : Nat → Nat → List Nat
  | 0, _ => []
  | f + 1, n => if n = 0 then [] else dgF f (n / 16) ++ [n % 16]
theorem hxF_map : ∀ (f n : Nat), hxF f n = (dgF f n).map hxD
  | 0, n => rfl
  | f + 1, n => by
    unfold hxF dgF
    split
    · rfl
    · rw [hxF_map f (n / 16)]; simp
theorem dgF_lt : ∀ (f n : Nat), ∀ d ∈ dgF f n, d < 16
  | 0, n, d, h => by cases h
  | f + 1, n, d, h => by
    unfold dgF at h
    split at h
    · cases h
    · rcases List.mem_append.1 h with h | h
      · exact dgF_lt f _ d h
      · simp at h; omega
def valF (l : List Nat) (n : Nat) : Nat := l.foldl (fun a d => 16 * a + d) n
theorem valF_append (l m : List Nat) (n : Nat) : valF (l ++ m) n = valF m (valF l n) := by simp [valF]
theorem dgF_val : ∀ (f n : Nat), n ≤ f → valF (dgF f n) 0 = n
  | 0, n, h => by simp [dgF, valF]; omega
  | f + 1, n, h => by
    unfold dgF
    split
    · rename_i h0; simp [valF, h0]
    · rw [valF_append, dgF_val f (n / 16) (by omega)]
      simp [valF]; omega
theorem dgF_len : ∀ (f n k : Nat), n < 16 ^ k → (dgF f n).length ≤ k
  | 0, n, k, h => by simp [dgF]
  | f + 1, n, k, h => by
    unfold dgF
    split
    · simp
    · cases k with
      | zero => simp at h; omega
      | succ k =>
        rw [Nat.pow_succ] at h
        have := dgF_len f (n / 16) k (by omega)
        simp; omega
theorem dgF_head : ∀ (f n : Nat), n ≠ 0 → n ≤ f → ∃ d l, dgF f n = d :: l ∧ d ≠ 0
  | 0, n, h, hf => by omega
  | f + 1, n, h, hf => by
    unfold dgF
    rw [if_neg h]
    by_cases h0 : n / 16 = 0
    · refine ⟨n % 16, [], ?_, by omega⟩
      have : dgF f (n / 16) = [] := by rw [h0]; cases f <;> simp [dgF]
      rw [this]; rfl
    · obtain ⟨d, l, e, hd⟩ := dgF_head f (n / 16) h0 (by omega)
      exact ⟨d, l ++ [n % 16], by rw [e]; rfl, hd⟩

/-- what is read of digits that were laid -/
theorem hxR_laid (p rest : List UInt8) : ∀ (ds : List Nat) (q : List UInt8) (f n : Nat), (∀ d ∈ ds, d < 16) → ds.length ≤ f → (f = ds.length ∨ ∃ c r, rest = c :: r ∧ 16 ≤ dgV c.toNat ∨ rest = []) →
    hxR (ofL (p ++ (q ++ (ds.map hxD ++ rest)))) p.length f n q.length = (valF ds n, q.length + ds.length)
  | [], q, f, n, hd, hf, hr => by
    cases f with
    | zero => simp [hxR, valF]
    | succ f =>
      unfold hxR
      rw [if_neg]
      · simp [valF]
      · rintro ⟨h1, h2⟩
        rcases hr with hr | ⟨c, r, ⟨rfl, hc⟩ | rfl⟩
        · simp at hr
        · have e : p.length + q.length = (p ++ q).length := by simp
          rw [e, show p ++ (q ++ (([] : List Nat).map hxD ++ c :: r)) = (p ++ q) ++ c :: r by simp, ← Nat.add_zero (p ++ q).length, by_at (p ++ q) (c :: r) 0 (by simp)] at h2
          simp at h2; omega
        · rw [ofL_size] at h1; simp at h1
  | d :: ds, q, f, n, hd, hf, hr => by
    cases f with
    | zero => simp at hf
    | succ f =>
      have hd0 := hd d (List.mem_cons_self ..)
      have eL : p ++ (q ++ ((d :: ds).map hxD ++ rest)) = (p ++ q) ++ (hxD d :: (ds.map hxD ++ rest)) := by simp
      have hb : by_ (ofL (p ++ (q ++ ((d :: ds).map hxD ++ rest)))) (p.length + q.length) = (hxD d).toNat := by
        rw [eL, show p.length + q.length = (p ++ q).length + 0 by simp, by_at _ _ 0 (by simp)]; rfl
      unfold hxR
      rw [hb, dgV_hxD d hd0, if_pos ⟨by rw [ofL_size]; simp, hd0⟩]
      have ih := hxR_laid p rest ds (q ++ [hxD d]) f (16 * n + d) (fun x hx => hd x (List.mem_cons_of_mem _ hx)) (by simp at hf; omega) (by
        rcases hr with hr | hr
        · left; simp at hr; omega
        · exact .inr hr)
      have e2 : p ++ (q ++ ((d :: ds).map hxD ++ rest)) = p ++ ((q ++ [hxD d]) ++ (ds.map hxD ++ rest)) := by simp
      rw [e2, show q.length + 1 = (q ++ [hxD d]).length by simp, ih]
      simp [valF]; omega

end Go.Proofs.YtkndjbmlkfpfoaaGreatDoor
