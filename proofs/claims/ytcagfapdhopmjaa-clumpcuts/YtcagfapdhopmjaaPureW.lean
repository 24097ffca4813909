/-
  Plain facts: a piece has a byte at least; what is no rune is the rune fffd with one byte.
-/
import Derived.Test.YtcagfapdhopmjaaPure
namespace Go.Proofs.Ytcagfapdhopmjaa
open Go.Lib

theorem wd_pos (s : ByteArray) (k : Nat) (hk : k < s.size) : 1 ≤ wd s k := by
  have h4 := hW_le (by_ s k)
  by_cases h1 : by_ s k ≤ 127
  · rw [wd_of (dec_one s k h1)]; decide
  · by_cases h0 : hW (by_ s k) = 0
    · rw [wd_of (dec_bad s k h0)]; decide
    · by_cases hn : s.size - k < hW (by_ s k)
      · rw [wd_of (dec_short s k hk hn)]; decide
      · have hne : hW (by_ s k) ≠ 1 := by unfold hW; (repeat' split) <;> omega
        by_cases hg1 : g1 s k
        · rcases (by omega : hW (by_ s k) = 2 ∨ hW (by_ s k) = 3 ∨ hW (by_ s k) = 4) with hc | hc | hc
          · rw [wd_of (dec_two s k hk hc (by omega) hg1)]; decide
          · by_cases hg2 : g2 s k
            · rw [wd_of (dec_three s k hk hc (by omega) hg1 hg2)]; decide
            · rw [wd_of (dec_no2 s k hk (by omega) hg2)]; decide
          · by_cases hg2 : g2 s k
            · by_cases hg3 : g3 s k
              · rw [wd_of (dec_four s k hk hc (by omega) hg1 hg2 hg3)]; decide
              · rw [wd_of (dec_no3 s k hk hc hg3)]; decide
            · rw [wd_of (dec_no2 s k hk (by omega) hg2)]; decide
        · rw [wd_of (dec_no1 s k hk (by omega) hg1)]; decide

theorem ok_false_iff {s : ByteArray} {k : Nat} (h : okR s k = false) : rn s k = 65533 ∧ wd s k = 1 := by
  unfold okR at h
  simpa using h

end Go.Proofs.Ytcagfapdhopmjaa
