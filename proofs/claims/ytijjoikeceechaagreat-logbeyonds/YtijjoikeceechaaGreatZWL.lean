/-
  How wide a piece of a text is (pure).
-/
import Derived.Test.YtijjoikeceechaaGreatZIter
import Derived.Test.YtijjoikeceechaaGreatZXPure
set_option linter.unusedSimpArgs false
set_option linter.unusedVariables false
namespace Go.Proofs.YtijjoikeceechaaGreat
open Go.RowKit Go.Lib

theorem ok_cases (s : ByteArray) (k : Nat) (hk : k < s.size) (ho : okR s k = true) :
    (by_ s k ≤ 127 ∧ rn s k = by_ s k ∧ wd s k = 1) ∨
    (hW (by_ s k) = 2 ∧ k + 2 ≤ s.size ∧ g1 s k ∧ rn s k = by_ s k % 32 * 64 + by_ s (k + 1) % 64 ∧ wd s k = 2) ∨
    (hW (by_ s k) = 3 ∧ k + 3 ≤ s.size ∧ g1 s k ∧ g2 s k ∧ rn s k = by_ s k % 16 * 4096 + by_ s (k + 1) % 64 * 64 + by_ s (k + 2) % 64 ∧ wd s k = 3) ∨
    (hW (by_ s k) = 4 ∧ k + 4 ≤ s.size ∧ g1 s k ∧ g2 s k ∧ g3 s k ∧ rn s k = by_ s k % 8 * 262144 + by_ s (k + 1) % 64 * 4096 + by_ s (k + 2) % 64 * 64 + by_ s (k + 3) % 64 ∧ wd s k = 4) := by
  have h4 := hW_le (by_ s k)
  have no : ∀ {P : Prop}, Utf8.decode s k = (65533, 1) → P := fun h => by rw [ok_bad h] at ho; cases ho
  by_cases h1 : by_ s k ≤ 127
  · have hd := dec_one s k h1
    exact .inl ⟨h1, rn_of hd, wd_of hd⟩
  · by_cases h0 : hW (by_ s k) = 0
    · exact no (dec_bad s k h0)
    · by_cases hn : s.size - k < hW (by_ s k)
      · exact no (dec_short s k hk hn)
      · have hne : hW (by_ s k) ≠ 1 := by unfold hW; (repeat' split) <;> omega
        by_cases hg1 : g1 s k
        · rcases (by omega : hW (by_ s k) = 2 ∨ hW (by_ s k) = 3 ∨ hW (by_ s k) = 4) with hc | hc | hc
          · have hd := dec_two s k hk hc (by omega) hg1
            exact .inr (.inl ⟨hc, by omega, hg1, rn_of hd, wd_of hd⟩)
          · by_cases hg2 : g2 s k
            · have hd := dec_three s k hk hc (by omega) hg1 hg2
              exact .inr (.inr (.inl ⟨hc, by omega, hg1, hg2, rn_of hd, wd_of hd⟩))
            · exact no (dec_no2 s k hk (by omega) hg2)
          · by_cases hg2 : g2 s k
            · by_cases hg3 : g3 s k
              · have hd := dec_four s k hk hc (by omega) hg1 hg2 hg3
                exact .inr (.inr (.inr ⟨hc, by omega, hg1, hg2, hg3, rn_of hd, wd_of hd⟩))
              · exact no (dec_no3 s k hk hc hg3)
            · exact no (dec_no2 s k hk (by omega) hg2)
        · exact no (dec_no1 s k hk (by omega) hg1)

theorem hW2_range {b : Nat} (h : hW b = 2) : 194 ≤ b ∧ b ≤ 223 := by unfold hW at h; (repeat' split at h) <;> omega
theorem hW3_range {b : Nat} (h : hW b = 3) : 224 ≤ b ∧ b ≤ 239 := by unfold hW at h; (repeat' split at h) <;> omega
theorem hW4_range {b : Nat} (h : hW b = 4) : 240 ≤ b ∧ b ≤ 244 := by unfold hW at h; (repeat' split at h) <;> omega
/-- the second byte's range, by the first one -/
theorem g1_range {s : ByteArray} {k : Nat} (hb : 194 ≤ by_ s k ∧ by_ s k ≤ 244) (h : g1 s k) :
    128 ≤ by_ s (k + 1) ∧ by_ s (k + 1) ≤ 191 ∧ (by_ s k = 224 → 160 ≤ by_ s (k + 1)) ∧ (by_ s k = 237 → by_ s (k + 1) ≤ 159) ∧ (by_ s k = 240 → 144 ≤ by_ s (k + 1)) ∧ (by_ s k = 244 → by_ s (k + 1) ≤ 143) := by
  unfold g1 hLo hHi at h
  (repeat' split at h) <;> omega


theorem wd_le (s : ByteArray) (k : Nat) (hk : k < s.size) : k + wd s k ≤ s.size ∧ wd s k ≤ 4 := by
  cases ho : okR s k with
  | false => have := ok_false_iff ho; omega
  | true => rcases ok_cases s k hk ho with ⟨h1, hr, hw⟩ | ⟨hc, hn, hg, hr, hw⟩ | ⟨hc, hn, hg, hg2, hr, hw⟩ | ⟨hc, hn, hg, hg2, hg3, hr, hw⟩ <;> omega


theorem allL_pos {s : ByteArray} (h : 0 < s.size) : 0 < (allL s).length := by
  obtain ⟨f, hf⟩ : ∃ f, s.size = f + 1 := ⟨s.size - 1, by omega⟩
  unfold allL
  rw [hf, posL_step s f 0 h]
  simp

end Go.Proofs.YtijjoikeceechaaGreat
