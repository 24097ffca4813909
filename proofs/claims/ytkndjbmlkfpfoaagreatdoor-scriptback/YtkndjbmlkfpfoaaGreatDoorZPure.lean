/-
  Plain facts on UTF-8, by numbers: what a first byte says, and that the model's decoding of a text at a place is the one of the table of first bytes.
-/
import GoSem.Core.Utf8
import Derived.Lib.DecodeN
import Derived.Lib.DecodeNEq

set_option linter.unusedVariables false
namespace Go.Proofs.YtkndjbmlkfpfoaaGreatDoor
open Go.Lib

/-- the rune at a place, its width, whether it is one -/
def rn (s : ByteArray) (i : Nat) : Nat := (Utf8.decode s i).1
def wd (s : ByteArray) (i : Nat) : Nat := (Utf8.decode s i).2
def okR (s : ByteArray) (i : Nat) : Bool := !(rn s i == 65533 && wd s i == 1)
def by_ (s : ByteArray) (i : Nat) : Nat := (s.get! i).toNat

theorem by_lt (s : ByteArray) (i : Nat) : by_ s i < 256 := (s.get! i).toNat_lt

theorem by_get (s : ByteArray) (i : Nat) (h : i < s.size) : (s[i]'h).toNat = by_ s i := by
  unfold by_
  simp [ByteArray.get!, getElem!_pos, h]
  rfl

/-- what a first byte says: width, from, to -/
def hW (b : Nat) : Nat := if b ≤ 127 then 1 else if b ≤ 193 then 0 else if b ≤ 223 then 2 else if b ≤ 239 then 3 else if b ≤ 244 then 4 else 0
def hLo (b : Nat) : Nat := if b ≤ 127 then 128 else if b ≤ 193 then 0 else if b = 224 then 160 else if b = 240 then 144 else if b ≤ 244 then 128 else 0
def hHi (b : Nat) : Nat := if b ≤ 127 then 191 else if b ≤ 193 then 0 else if b = 237 then 159 else if b = 244 then 143 else if b ≤ 244 then 191 else 0

theorem dec_eq (s : ByteArray) (i : Nat) : Utf8.decode s i = decodeN (s.size - i) (by_ s i) (by_ s (i + 1)) (by_ s (i + 2)) (by_ s (i + 3)) := decode_at s i

theorem dec_one (s : ByteArray) (i : Nat) (h : by_ s i ≤ 127) : Utf8.decode s i = (by_ s i, 1) := by
  rw [dec_eq]; unfold decodeN; rw [if_pos (by omega)]

theorem hW_slow (n b0 b1 b2 b3 : Nat) (hn : 1 ≤ n) (h1 : b1 < 256) (h2 : b2 < 256) (h3 : b3 < 256) (hw : 2 ≤ hW b0) :
    slowN n b0 b1 b2 b3 (hW b0) (hLo b0) (hHi b0) = decodeN n b0 b1 b2 b3 := by
  have hc : (194 ≤ b0 ∧ b0 < 224) ∨ b0 = 224 ∨ ((225 ≤ b0 ∧ b0 < 237) ∨ (238 ≤ b0 ∧ b0 < 240)) ∨ b0 = 237 ∨ b0 = 240 ∨ (241 ≤ b0 ∧ b0 < 244) ∨ b0 = 244 := by
    unfold hW at hw; split at hw <;> (try split at hw) <;> (try split at hw) <;> (try split at hw) <;> (try split at hw) <;> omega
  rcases hc with h | h | h | h | h | h | h
  · rw [show hW b0 = 2 by unfold hW; rw [if_neg (by omega), if_neg (by omega), if_pos (by omega)], show hLo b0 = 128 by unfold hLo; rw [if_neg (by omega), if_neg (by omega), if_neg (by omega), if_neg (by omega), if_pos (by omega)], show hHi b0 = 191 by unfold hHi; rw [if_neg (by omega), if_neg (by omega), if_neg (by omega), if_neg (by omega), if_pos (by omega)]]
    exact slow_C2 n b0 b1 b2 b3 hn h1 h2 h3 h
  · subst h; exact slow_E0 n 224 b1 b2 b3 hn h1 h2 h3 rfl
  · rw [show hW b0 = 3 by unfold hW; rw [if_neg (by omega), if_neg (by omega), if_neg (by omega), if_pos (by omega)], show hLo b0 = 128 by unfold hLo; rw [if_neg (by omega), if_neg (by omega), if_neg (by omega), if_neg (by omega), if_pos (by omega)], show hHi b0 = 191 by unfold hHi; rw [if_neg (by omega), if_neg (by omega), if_neg (by omega), if_neg (by omega), if_pos (by omega)]]
    exact slow_E1 n b0 b1 b2 b3 hn h1 h2 h3 h
  · subst h; exact slow_ED n 237 b1 b2 b3 hn h1 h2 h3 rfl
  · subst h; exact slow_F0 n 240 b1 b2 b3 hn h1 h2 h3 rfl
  · rw [show hW b0 = 4 by unfold hW; rw [if_neg (by omega), if_neg (by omega), if_neg (by omega), if_neg (by omega), if_pos (by omega)], show hLo b0 = 128 by unfold hLo; rw [if_neg (by omega), if_neg (by omega), if_neg (by omega), if_neg (by omega), if_pos (by omega)], show hHi b0 = 191 by unfold hHi; rw [if_neg (by omega), if_neg (by omega), if_neg (by omega), if_neg (by omega), if_pos (by omega)]]
    exact slow_F1 n b0 b1 b2 b3 hn h1 h2 h3 h
  · subst h; exact slow_F4 n 244 b1 b2 b3 hn h1 h2 h3 rfl

theorem hW_bad (n b0 b1 b2 b3 : Nat) (h0 : b0 < 256) (hw : hW b0 = 0) : decodeN n b0 b1 b2 b3 = (65533, 1) := by
  refine bad_eq n b0 b1 b2 b3 h0 ?_
  unfold hW at hw
  unfold firstT
  repeat' split at hw
  all_goals first | omega | (repeat' split) <;> omega

theorem dec_bad (s : ByteArray) (i : Nat) (hw : hW (by_ s i) = 0) : Utf8.decode s i = (65533, 1) := by
  rw [dec_eq]; exact hW_bad _ _ _ _ _ (by_lt s i) hw

theorem dec_slow (s : ByteArray) (i : Nat) (hi : i < s.size) (hw : 2 ≤ hW (by_ s i)) :
    Utf8.decode s i = slowN (s.size - i) (by_ s i) (by_ s (i + 1)) (by_ s (i + 2)) (by_ s (i + 3)) (hW (by_ s i)) (hLo (by_ s i)) (hHi (by_ s i)) := by
  rw [dec_eq]; exact (hW_slow _ _ _ _ _ (by omega) (by_lt s _) (by_lt s _) (by_lt s _) hw).symm

theorem hW_le (b : Nat) : hW b ≤ 4 := by unfold hW; (repeat' split) <;> omega
/-- the second byte fits; the third; the fourth -/
def g1 (s : ByteArray) (k : Nat) : Prop := hLo (by_ s k) ≤ by_ s (k + 1) ∧ by_ s (k + 1) ≤ hHi (by_ s k)
def g2 (s : ByteArray) (k : Nat) : Prop := 128 ≤ by_ s (k + 2) ∧ by_ s (k + 2) ≤ 191
def g3 (s : ByteArray) (k : Nat) : Prop := 128 ≤ by_ s (k + 3) ∧ by_ s (k + 3) ≤ 191

theorem dec_short (s : ByteArray) (k : Nat) (hk : k < s.size) (hw : s.size - k < hW (by_ s k)) : Utf8.decode s k = (65533, 1) := by
  rw [dec_slow s k hk (by omega)]; unfold slowN; rw [if_pos hw]
theorem dec_no1 (s : ByteArray) (k : Nat) (hk : k < s.size) (hw : 2 ≤ hW (by_ s k)) (h : ¬ g1 s k) : Utf8.decode s k = (65533, 1) := by
  unfold g1 at h
  rw [dec_slow s k hk hw]; unfold slowN; split
  · rfl
  · rw [if_pos (by omega)]
theorem dec_no2 (s : ByteArray) (k : Nat) (hk : k < s.size) (hw : 3 ≤ hW (by_ s k)) (h : ¬ g2 s k) : Utf8.decode s k = (65533, 1) := by
  unfold g2 at h
  rw [dec_slow s k hk (by omega)]; unfold slowN; split
  · rfl
  · split
    · rfl
    · rw [if_neg (by omega), if_pos (by omega)]
theorem dec_no3 (s : ByteArray) (k : Nat) (hk : k < s.size) (hw : hW (by_ s k) = 4) (h : ¬ g3 s k) : Utf8.decode s k = (65533, 1) := by
  unfold g3 at h
  rw [dec_slow s k hk (by omega)]; unfold slowN; split
  · rfl
  · split
    · rfl
    · rw [if_neg (by omega)]; split
      · rfl
      · rw [if_neg (by omega), if_pos (by omega)]
theorem dec_two (s : ByteArray) (k : Nat) (hk : k < s.size) (hw : hW (by_ s k) = 2) (hn : k + 2 ≤ s.size) (h1 : g1 s k) : Utf8.decode s k = (by_ s k % 32 * 64 + by_ s (k + 1) % 64, 2) := by
  unfold g1 at h1
  rw [dec_slow s k hk (by omega)]; unfold slowN; rw [if_neg (by omega), if_neg (by omega), if_pos (by omega)]
theorem dec_three (s : ByteArray) (k : Nat) (hk : k < s.size) (hw : hW (by_ s k) = 3) (hn : k + 3 ≤ s.size) (h1 : g1 s k) (h2 : g2 s k) : Utf8.decode s k = (by_ s k % 16 * 4096 + by_ s (k + 1) % 64 * 64 + by_ s (k + 2) % 64, 3) := by
  unfold g1 at h1; unfold g2 at h2
  rw [dec_slow s k hk (by omega)]; unfold slowN; rw [if_neg (by omega), if_neg (by omega), if_neg (by omega), if_neg (by omega), if_pos (by omega)]
theorem dec_four (s : ByteArray) (k : Nat) (hk : k < s.size) (hw : hW (by_ s k) = 4) (hn : k + 4 ≤ s.size) (h1 : g1 s k) (h2 : g2 s k) (h3 : g3 s k) : Utf8.decode s k = (by_ s k % 8 * 262144 + by_ s (k + 1) % 64 * 4096 + by_ s (k + 2) % 64 * 64 + by_ s (k + 3) % 64, 4) := by
  unfold g1 at h1; unfold g2 at h2; unfold g3 at h3
  rw [dec_slow s k hk (by omega)]; unfold slowN; rw [if_neg (by omega), if_neg (by omega), if_neg (by omega), if_neg (by omega), if_neg (by omega), if_neg (by omega)]

theorem rn_of {s : ByteArray} {k r n : Nat} (h : Utf8.decode s k = (r, n)) : rn s k = r := by unfold rn; rw [h]
theorem wd_of {s : ByteArray} {k r n : Nat} (h : Utf8.decode s k = (r, n)) : wd s k = n := by unfold wd; rw [h]
theorem ok_bad {s : ByteArray} {k : Nat} (h : Utf8.decode s k = (65533, 1)) : okR s k = false := by unfold okR; rw [rn_of h, wd_of h]; rfl
theorem ok_wide {s : ByteArray} {k r n : Nat} (h : Utf8.decode s k = (r, n)) (hn : n ≠ 1) : okR s k = true := by unfold okR; rw [rn_of h, wd_of h]; simp [hn]
theorem ok_one {s : ByteArray} {k r : Nat} (h : Utf8.decode s k = (r, 1)) (hr : r ≠ 65533) : okR s k = true := by unfold okR; rw [rn_of h, wd_of h]; simp [hr]

end Go.Proofs.YtkndjbmlkfpfoaaGreatDoor
