/-
  Plain facts on UTF-8, by numbers: what a first byte says, and that the model's decoding of a text at a place is the one of the table of first bytes.
-/
import GoSem.Core.Utf8
import Derived.Lib.DecodeN
import Derived.Lib.DecodeNEq

set_option linter.unusedVariables false
namespace Go.Proofs.YtkndjbmlkfpfoaaGreatDoor
open Go.Lib

/-- the rune at a place, its width, whether it is one -/
def rn (s : ByteArray) (i : Nat) : Nat := (Utf8.decode s i).1
def wd (s : ByteArray) (i : Nat) : Nat := (Utf8.decode s i).2
def okR (s : ByteArray) (i : Nat) : Bool := !(rn s i == 65533 && wd s i == 1)
def by_ (s : ByteArray) (i : Nat) : Nat := (s.get! i).toNat

theorem by_lt (s : ByteArray) (i : Nat) : by_ s i < 256 := (s.get! i).toNat_lt

theorem by_get (s : ByteArray) (i : Nat) (h : i < s.size) : (s[i]'h).toNat = by_ s i := by
  unfold by_
  simp [ByteArray.get!, getElem!_pos, h]
  rfl

/-- what a first byte says: width, from, to -/
def hW (b : Nat) : Nat := if b ≤ 127 then 1 else if b ≤ 193 then 0 else if b ≤ 223 then 2 else if b ≤ 239 then 3 else if b ≤ 244 then 4 else 0
def hLo (b : Nat) : Nat := if b ≤ 127 then 128 else if b ≤ 193 then 0 else if b = 224 then 160 else if b = 240 then 144 else if b ≤ 244 then 128 else 0
def hHi (b : Nat) : Nat := if b ≤ 127 then 191 else if b ≤ 193 then 0 else if b = 237 then 159 else if b = 244 then 143 else if b ≤ 244 then 191 else 0

theorem dec_eq (s : ByteArray) (i : Nat) : Utf8.decode s i = decodeN (s.size - i) (by_ s i) (by_ s (i + 1)) (by_ s (i + 2)) (by_ s (i + 3)) := decode_at s i

theorem dec_one (s : ByteArray) (i : Nat) (h : by_ s i ≤ 127) : Utf8.decode s i = (by_ s i, 1) := by
  rw [dec_eq]; unfold decodeN; rw [if_pos (by omega)]

theorem hW_slow (n b0 b1 b2 b3 : Nat) (hn : 1 ≤ n) (h1 : b1 < 256) (h2 : b2 < 256) (h3 : b3 < 256) (hw : 2 ≤ hW b0) :
    slowN n b0 b1 b2 b3 (hW b0) (hLo b0) (hHi b0) = decodeN n b0 b1 b2 b3 := by
  have hc : (194 ≤ b0 ∧ b0 < 224) ∨ b0 = 224 ∨ ((225 ≤ b0 ∧ b0 < 237) ∨ (238 ≤ b0 ∧ b0 < 240)) ∨ b0 = 237 ∨ b0 = 240 ∨ (241 ≤ b0 ∧ b0 < 244) ∨ b0 = 244 := by
    unfold hW at hw; split at hw <;> (try split at hw) <;> (try split at hw) <;> (try split at hw) <;> (try split at hw) <;> omega
  rcases hc with h | h | h | h | h | h | h
  · rw [show hW b0 = 2 by unfold hW; rw [if_neg (by omega), if_neg (by omega), if_pos (by omega)], show hLo b0 = 128 by unfold hLo; rw [if_neg (by omega), if_neg (by omega), if_neg (by omega), if_neg (by omega), if_pos (by omega)], show hHi b0 = 191 by unfold hHi; rw [if_neg (by omega), if_neg (by omega), if_neg (by omega), if_neg (by omega), if_pos (by omega)]]
    exact slow_C2 n b0 b1 b2 b3 hn h1 h2 h3 h
  · subst h; exact slow_E0 n 224 b1 b2 b3 hn h1 h2 h3 rfl
  · rw [show hW b0 = 3 by unfold hW; rw [if_neg (by omega), if_neg (by omega), if_neg (by omega), if_pos (by omega)], show hLo b0 = 128 by unfold hLo; rw [if_neg (by omega), if_neg (by omega), if_neg (by omega), if_neg (by omega), if_pos (by omega)], show hHi b0 = 191 by unfold hHi; rw [if_neg (by omega), if_neg (by omega), if_neg (by omega), if_neg (by omega), if_pos (by omega)]]
    exact slow_E1 n b0 b1 b2 b3 hn h1 h2 h3 h
  · subst h; exact slow_ED n 237 b1 b2 b3 hn h1 h2 h3 rfl
  · subst h; exact slow_F0 n 240 b1 b2 b3 hn h1 h2 h3 rfl
  · rw [show hW b0 = 4 by unfold hW; rw [if_neg (by omega), if_neg (by omega), if_neg (by omega), if_neg (by omega), if_pos (by omega)], show hLo b0 = 128 by unfold hLo; rw [if_neg (by omega), if_neg (by omega), if_neg (by omega), if_neg (by omega), if_pos (by omega)], show hHi b0 = 191 by unfold hHi; rw [if_neg (by omega), if_neg (by omega), if_neg (by omega), if_neg (by omega), if_pos (by omega)]]
    exact slow_F1 n b0 b1 b2 b3 hn h1 h2 h3 h
  · subst h; exact slow_F4 n 244 b1 b2 b3 hn h1 h2 h3 rfl

theorem hW_bad (n b0 b1 b2 b3 : Nat) (h0 : b0 < 256) (hw : hW b0 = 0) : decodeN n b0 b1 b2 b3 = (65533, 1) := by
  refine bad_eq n b0 b1 b2 b3 h0 ?_
  unfold hW at hw
  unfold firstT
  repeat' split at hw
  all_goals first | omega | (repeat' split) <;> omega

theorem dec_bad (s : ByteArray) (i : Nat) (hw : hW (by_ s i) = 0) : Utf8.decode s i = (65533, 1) := by
  rw [dec_eq]; exact hW_bad _ _ _ _ _ (by_lt s i) hw

theorem dec_slow (s : ByteArray) (i : Nat) (hi : i < s.size) (hw : 2 ≤ hW (by_ s i)) :
    Utf8.decode s i = slowN (s.size - i) (by_ s i) (by_ s (i + 1)) (by_ s (i + 2)) (by_ s (i + 3)) (hW (by_ s i)) (hLo (by_ s i)) (hHi (by_ s i)) := by
  rw [dec_eq]; exact (hW_slow _ _ _ _ _ (by omega) (by_lt s _) (by_lt s _) (by_lt s _) hw).symm

theorem hW_le (b : Nat) : hW b ≤ 4 := by unfold hW; (repeat' split) <;> omega
theorem hLo_lt (b : Nat) : hLo b ≤ 255 := by unfold hLo; (repeat' split) <;> omega
theorem hHi_lt (b : Nat) : hHi b ≤ 255 := by unfold hHi; (repeat' split) <;> omega

/-- the second byte fits; the third; the fourth -/
def g1 (s : ByteArray) (k : Nat) : Prop := hLo (by_ s k) ≤ by_ s (k + 1) ∧ by_ s (k + 1) ≤ hHi (by_ s k)
def g2 (s : ByteArray) (k : Nat) : Prop := 128 ≤ by_ s (k + 2) ∧ by_ s (k + 2) ≤ 191
def g3 (s : ByteArray) (k : Nat) : Prop := 128 ≤ by_ s (k + 3) ∧ by_ s (k + 3) ≤ 191

theorem dec_short (s : ByteArray) (k : Nat) (hk : k < s.size) (hw : s.size - k < hW (by_ s k)) : Utf8.decode s k = (65533, 1) := by
  rw [dec_slow s k hk (by omega)]; unfold slowN; rw [if_pos hw]
theorem dec_no1 (s : ByteArray) (k : Nat) (hk : k < s.size) (hw : 2 ≤ hW (by_ s k)) (h : ¬ g1 s k) : Utf8.decode s k = (65533, 1) := by
  unfold g1 at h
  rw [dec_slow s k hk hw]; unfold slowN; split
  · rfl
  · rw [if_pos (by omega)]
theorem dec_no2 (s : ByteArray) (k : Nat) (hk : k < s.size) (hw : 3 ≤ hW (by_ s k)) (h : ¬ g2 s k) : Utf8.decode s k = (65533, 1) := by
  unfold g2 at h
  rw [dec_slow s k hk (by omega)]; unfold slowN; split
  · rfl
  · split
    · rfl
    · rw [if_neg (by omega), if_pos (by omega)]
theorem dec_no3 (s : ByteArray) (k : Nat) (hk : k < s.size) (hw : hW (by_ s k) = 4) (h : ¬ g3 s k) : Utf8.decode s k = (65533, 1) := by
  unfold g3 at h
  rw [dec_slow s k hk (by omega)]; unfold slowN; split
  · rfl
  · split
    · rfl
    · rw [if_neg (by omega)]; split
      · rfl
      · rw [if_neg (by omega), if_pos (by omega)]
theorem dec_two (s : ByteArray) (k : Nat) (hk : k < s.size) (hw : hW (by_ s k) = 2) (hn : k + 2 ≤ s.size) (h1 : g1 s k) : Utf8.decode s k = (by_ s k % 32 * 64 + by_ s (k + 1) % 64, 2) := by
  unfold g1 at h1
  rw [dec_slow s k hk (by omega)]; unfold slowN; rw [if_neg (by omega), if_neg (by omega), if_pos (by omega)]
theorem dec_three (s : ByteArray) (k : Nat) (hk : k < s.size) (hw : hW (by_ s k) = 3) (hn : k + 3 ≤ s.size) (h1 : g1 s k) (h2 : g2 s k) : Utf8.decode s k = (by_ s k % 16 * 4096 + by_ s (k + 1) % 64 * 64 + by_ s (k + 2) % 64, 3) := by
  unfold g1 at h1; unfold g2 at h2
  rw [dec_slow s k hk (by omega)]; unfold slowN; rw [if_neg (by omega), if_neg (by omega), if_neg (by omega), if_neg (by omega), if_pos (by omega)]
theorem dec_four (s : ByteArray) (k : Nat) (hk : k < s.size) (hw : hW (by_ s k) = 4) (hn : k + 4 ≤ s.size) (h1 : g1 s k) (h2 : g2 s k) (h3 : g3 s k) : Utf8.decode s k = (by_ s k % 8 * 262144 + by_ s (k + 1) % 64 * 4096 + by_ s (k + 2) % 64 * 64 + by_ s (k + 3) % 64, 4) := by
  unfold g1 at h1; unfold g2 at h2; unfold g3 at h3
  rw [dec_slow s k hk (by omega)]; unfold slowN; rw [if_neg (by omega), if_neg (by omega), if_neg (by omega), if_neg (by omega), if_neg (by omega), if_neg (by omega)]

theorem rn_of {s : ByteArray} {k r n : Nat} (h : Utf8.decode s k = (r, n)) : rn s k = r := by unfold rn; rw [h]
theorem wd_of {s : ByteArray} {k r n : Nat} (h : Utf8.decode s k = (r, n)) : wd s k = n := by unfold wd; rw [h]
theorem ok_bad {s : ByteArray} {k : Nat} (h : Utf8.decode s k = (65533, 1)) : okR s k = false := by unfold okR; rw [rn_of h, wd_of h]; rfl
theorem ok_wide {s : ByteArray} {k r n : Nat} (h : Utf8.decode s k = (r, n)) (hn : n ≠ 1) : okR s k = true := by unfold okR; rw [rn_of h, wd_of h]; simp [hn]
theorem ok_one {s : ByteArray} {k r : Nat} (h : Utf8.decode s k = (r, 1)) (hr : r ≠ 65533) : okR s k = true := by unfold okR; rw [rn_of h, wd_of h]; simp [hr]

end Go.Proofs.YtkndjbmlkfpfoaaGreatDoor

/-
  Plain facts: a piece has a byte at least; what is no rune is the rune fffd with one byte.
-/
namespace Go.Proofs.YtkndjbmlkfpfoaaGreatDoor
open Go.Lib

theorem wd_pos (s : ByteArray) (k : Nat) (hk : k < s.size) : 1 ≤ wd s k := by
  have h4 := hW_le (by_ s k)
  by_cases h1 : by_ s k ≤ 127
  · rw [wd_of (dec_one s k h1)]; decide
  · by_cases h0 : hW (by_ s k) = 0
    · rw [wd_of (dec_bad s k h0)]; decide
    · by_cases hn : s.size - k < hW (by_ s k)
      · rw [wd_of (dec_short s k hk hn)]; decide
      · have hne : hW (by_ s k) ≠ 1 := by unfold hW; (repeat' split) <;> omega
        by_cases hg1 : g1 s k
        · rcases (by omega : hW (by_ s k) = 2 ∨ hW (by_ s k) = 3 ∨ hW (by_ s k) = 4) with hc | hc | hc
          · rw [wd_of (dec_two s k hk hc (by omega) hg1)]; decide
          · by_cases hg2 : g2 s k
            · rw [wd_of (dec_three s k hk hc (by omega) hg1 hg2)]; decide
            · rw [wd_of (dec_no2 s k hk (by omega) hg2)]; decide
          · by_cases hg2 : g2 s k
            · by_cases hg3 : g3 s k
              · rw [wd_of (dec_four s k hk hc (by omega) hg1 hg2 hg3)]; decide
              · rw [wd_of (dec_no3 s k hk hc hg3)]; decide
            · rw [wd_of (dec_no2 s k hk (by omega) hg2)]; decide
        · rw [wd_of (dec_no1 s k hk (by omega) hg1)]; decide

theorem ok_false_iff {s : ByteArray} {k : Nat} (h : okR s k = false) : rn s k = 65533 ∧ wd s k = 1 := by
  unfold okR at h
  simpa using h

end Go.Proofs.YtkndjbmlkfpfoaaGreatDoor

/-
  Plain facts on a text's runes: the places of its pieces, from the beginning and from the end.
-/
set_option linter.unusedSimpArgs false
set_option linter.unusedVariables false
namespace Go.Proofs.YtkndjbmlkfpfoaaGreatDoor
open Go.Lib

/-- the four ways to be a rune -/
theorem ok_cases (s : ByteArray) (k : Nat) (hk : k < s.size) (ho : okR s k = true) :
    (by_ s k ≤ 127 ∧ rn s k = by_ s k ∧ wd s k = 1) ∨
    (hW (by_ s k) = 2 ∧ k + 2 ≤ s.size ∧ g1 s k ∧ rn s k = by_ s k % 32 * 64 + by_ s (k + 1) % 64 ∧ wd s k = 2) ∨
    (hW (by_ s k) = 3 ∧ k + 3 ≤ s.size ∧ g1 s k ∧ g2 s k ∧ rn s k = by_ s k % 16 * 4096 + by_ s (k + 1) % 64 * 64 + by_ s (k + 2) % 64 ∧ wd s k = 3) ∨
    (hW (by_ s k) = 4 ∧ k + 4 ≤ s.size ∧ g1 s k ∧ g2 s k ∧ g3 s k ∧ rn s k = by_ s k % 8 * 262144 + by_ s (k + 1) % 64 * 4096 + by_ s (k + 2) % 64 * 64 + by_ s (k + 3) % 64 ∧ wd s k = 4) := by
  have h4 := hW_le (by_ s k)
  have no : ∀ {P : Prop}, Utf8.decode s k = (65533, 1) → P := fun h => by rw [ok_bad h] at ho; cases ho
  by_cases h1 : by_ s k ≤ 127
  · have hd := dec_one s k h1
    exact .inl ⟨h1, rn_of hd, wd_of hd⟩
  · by_cases h0 : hW (by_ s k) = 0
    · exact no (dec_bad s k h0)
    · by_cases hn : s.size - k < hW (by_ s k)
      · exact no (dec_short s k hk hn)
      · have hne : hW (by_ s k) ≠ 1 := by unfold hW; (repeat' split) <;> omega
        by_cases hg1 : g1 s k
        · rcases (by omega : hW (by_ s k) = 2 ∨ hW (by_ s k) = 3 ∨ hW (by_ s k) = 4) with hc | hc | hc
          · have hd := dec_two s k hk hc (by omega) hg1
            exact .inr (.inl ⟨hc, by omega, hg1, rn_of hd, wd_of hd⟩)
          · by_cases hg2 : g2 s k
            · have hd := dec_three s k hk hc (by omega) hg1 hg2
              exact .inr (.inr (.inl ⟨hc, by omega, hg1, hg2, rn_of hd, wd_of hd⟩))
            · exact no (dec_no2 s k hk (by omega) hg2)
          · by_cases hg2 : g2 s k
            · by_cases hg3 : g3 s k
              · have hd := dec_four s k hk hc (by omega) hg1 hg2 hg3
                exact .inr (.inr (.inr ⟨hc, by omega, hg1, hg2, hg3, rn_of hd, wd_of hd⟩))
              · exact no (dec_no3 s k hk hc hg3)
            · exact no (dec_no2 s k hk (by omega) hg2)
        · exact no (dec_no1 s k hk (by omega) hg1)

theorem hW2_range {b : Nat} (h : hW b = 2) : 194 ≤ b ∧ b ≤ 223 := by unfold hW at h; (repeat' split at h) <;> omega
theorem hW3_range {b : Nat} (h : hW b = 3) : 224 ≤ b ∧ b ≤ 239 := by unfold hW at h; (repeat' split at h) <;> omega
theorem hW4_range {b : Nat} (h : hW b = 4) : 240 ≤ b ∧ b ≤ 244 := by unfold hW at h; (repeat' split at h) <;> omega
/-- the second byte's range, by the first one -/
theorem g1_range {s : ByteArray} {k : Nat} (hb : 194 ≤ by_ s k ∧ by_ s k ≤ 244) (h : g1 s k) :
    128 ≤ by_ s (k + 1) ∧ by_ s (k + 1) ≤ 191 ∧ (by_ s k = 224 → 160 ≤ by_ s (k + 1)) ∧ (by_ s k = 237 → by_ s (k + 1) ≤ 159) ∧ (by_ s k = 240 → 144 ≤ by_ s (k + 1)) ∧ (by_ s k = 244 → by_ s (k + 1) ≤ 143) := by
  unfold g1 hLo hHi at h
  (repeat' split at h) <;> omega


theorem wd_le (s : ByteArray) (k : Nat) (hk : k < s.size) : k + wd s k ≤ s.size ∧ wd s k ≤ 4 := by
  cases ho : okR s k with
  | false => have := ok_false_iff ho; omega
  | true => rcases ok_cases s k hk ho with ⟨h1, hr, hw⟩ | ⟨hc, hn, hg, hr, hw⟩ | ⟨hc, hn, hg, hg2, hr, hw⟩ | ⟨hc, hn, hg, hg2, hg3, hr, hw⟩ <;> omega


/-- the places of the pieces of a text, from a place on -/
def posL (s : ByteArray) : Nat → Nat → List Nat
  | 0, _ => []
  | f + 1, i => if i < s.size then i :: posL s f (i + wd s i) else []
def allL (s : ByteArray) : List Nat := posL s s.size 0

theorem posL_end (s : ByteArray) (f i : Nat) (h : ¬ i < s.size) : posL s f i = [] := by
  cases f with
  | zero => rfl
  | succ f => simp [posL, h]
theorem posL_step (s : ByteArray) (f i : Nat) (h : i < s.size) : posL s (f + 1) i = i :: posL s f (i + wd s i) := by simp [posL, h]
theorem posL_length (s : ByteArray) : ∀ f i, (posL s f i).length ≤ f
  | 0, _ => by simp [posL]
  | f + 1, i => by
    unfold posL
    split
    · have := posL_length s f (i + wd s i); simp; omega
    · simp
theorem allL_length (s : ByteArray) : (allL s).length ≤ s.size := posL_length s _ _

/-- a place of a text -/
abbrev Pl (s : ByteArray) := { i : Nat // i < s.size }


/-- n bytes ahead of e are a rune -/
def fit (s : ByteArray) (e n : Nat) : Bool := decide (1 ≤ n ∧ n ≤ e) && okR s (e - n) && (wd s (e - n) == n)
def lastW (s : ByteArray) (e : Nat) : Nat := if fit s e 1 then 1 else if fit s e 2 then 2 else if fit s e 3 then 3 else if fit s e 4 then 4 else 0
def lR (s : ByteArray) (a : Int) : Int := if 1 ≤ a ∧ a ≤ s.size then (if lastW s a.toNat = 0 then 65533 else (rn s (a.toNat - lastW s a.toNat) : Int)) else 0
def lN (s : ByteArray) (a : Int) : Int := if 1 ≤ a ∧ a ≤ s.size then (if lastW s a.toNat = 0 then 1 else (lastW s a.toNat : Int)) else 0
def lK (s : ByteArray) (a : Int) : Bool := if 1 ≤ a ∧ a ≤ s.size then decide (lastW s a.toNat ≠ 0) else false

theorem lastW_hit {s : ByteArray} {e n : Nat} (h1 : 1 ≤ n) (h4 : n ≤ 4) (hf : fit s e n = true) (hb : ∀ m, 1 ≤ m → m < n → fit s e m = false) : lastW s e = n := by
  unfold lastW
  rcases (by omega : n = 1 ∨ n = 2 ∨ n = 3 ∨ n = 4) with rfl | rfl | rfl | rfl
  · rw [if_pos hf]
  · rw [if_neg (by rw [hb 1 (by omega) (by omega)]; decide), if_pos hf]
  · rw [if_neg (by rw [hb 1 (by omega) (by omega)]; decide), if_neg (by rw [hb 2 (by omega) (by omega)]; decide), if_pos hf]
  · rw [if_neg (by rw [hb 1 (by omega) (by omega)]; decide), if_neg (by rw [hb 2 (by omega) (by omega)]; decide), if_neg (by rw [hb 3 (by omega) (by omega)]; decide), if_pos hf]

theorem lastW_none {s : ByteArray} {e : Nat} (hb : ∀ m, 1 ≤ m → m ≤ 4 → fit s e m = false) : lastW s e = 0 := by
  unfold lastW
  rw [if_neg (by rw [hb 1 (by omega) (by omega)]; decide), if_neg (by rw [hb 2 (by omega) (by omega)]; decide), if_neg (by rw [hb 3 (by omega) (by omega)]; decide), if_neg (by rw [hb 4 (by omega) (by omega)]; decide)]

theorem fit_far {s : ByteArray} {e m : Nat} (h : e < m) : fit s e m = false := by unfold fit; rw [decide_eq_false (by omega)]; rfl


/-- within a rune no rune begins -/
theorem ok_inside {s : ByteArray} {p j : Nat} (hp : p < s.size) (h1 : p < j) (h2 : j < p + wd s p) : okR s j = false := by
  have hok : okR s p = true := by
    cases ho : okR s p with
    | true => rfl
    | false => have := ok_false_iff ho; omega
  have hb : 128 ≤ by_ s j ∧ by_ s j ≤ 191 := by
    rcases ok_cases s p hp hok with ⟨_, _, hw⟩ | ⟨hc, hn, hg, hr, hw⟩ | ⟨hc, hn, hg, hg2, hr, hw⟩ | ⟨hc, hn, hg, hg2, hg3, hr, hw⟩
    · omega
    · have hr := hW2_range hc
      have hg' := g1_range (by omega) hg
      obtain rfl : j = p + 1 := by omega
      omega
    · have hr := hW3_range hc
      have hg' := g1_range (by omega) hg
      unfold g2 at hg2
      rcases (by omega : j = p + 1 ∨ j = p + 2) with rfl | rfl
      · omega
      · omega
    · have hr := hW4_range hc
      have hg' := g1_range (by omega) hg
      unfold g2 at hg2
      unfold g3 at hg3
      rcases (by omega : j = p + 1 ∨ j = p + 2 ∨ j = p + 3) with rfl | rfl | rfl
      · omega
      · omega
      · omega
  exact ok_bad (dec_bad s j (by unfold hW; rw [if_neg (by omega), if_pos (by omega)]))

/-- no rune that begins ahead of a place goes beyond it -/
def Sync (s : ByteArray) (i : Nat) : Prop := ∀ j, j < i → okR s j = true → j + wd s j ≤ i

theorem sync_zero (s : ByteArray) : Sync s 0 := fun j h _ => by omega
theorem sync_next {s : ByteArray} {i : Nat} (h : Sync s i) (hi : i < s.size) : Sync s (i + wd s i) := fun j hj ho => by
  by_cases h1 : j < i
  · have := h j h1 ho; omega
  · by_cases h2 : j = i
    · subst h2; exact Nat.le_refl _
    · rw [ok_inside hi (by omega) hj] at ho; cases ho

theorem last_sync {s : ByteArray} {i : Nat} (h : Sync s i) (hi : i < s.size) : lastW s (i + wd s i) = if okR s i then wd s i else 0 := by
  have hp := wd_pos s i hi
  have hl := wd_le s i hi
  cases ho : okR s i with
  | true =>
    rw [if_pos rfl]
    refine lastW_hit hp hl.2 ?_ (fun m h1 h2 => ?_)
    · unfold fit
      rw [decide_eq_true (by omega), show i + wd s i - wd s i = i from by omega, ho]
      simp
    · unfold fit
      rw [ok_inside hi (show i < i + wd s i - m by omega) (by omega)]
      simp
  | false =>
    rw [if_neg (by decide)]
    have hb := ok_false_iff ho
    refine lastW_none (fun m h1 h2 => ?_)
    unfold fit
    by_cases hm : m ≤ i + wd s i
    · rw [decide_eq_true ⟨h1, hm⟩]
      by_cases hm1 : m = 1
      · subst hm1
        rw [show i + wd s i - 1 = i from by omega, ho]
        rfl
      · cases hj : okR s (i + wd s i - m) with
        | false => rfl
        | true =>
          have := h (i + wd s i - m) (by omega) hj
          have hne : wd s (i + wd s i - m) ≠ m := by omega
          simp [hne]
    · rw [decide_eq_false (by omega)]; rfl

theorem lR_sync {s : ByteArray} {i : Nat} (h : Sync s i) (hi : i < s.size) : lR s ((i : Int) + (wd s i : Int)) = (rn s i : Int) := by
  have hp := wd_pos s i hi
  have hl := wd_le s i hi
  have e : ((i : Int) + (wd s i : Int)).toNat = i + wd s i := by omega
  unfold lR
  rw [if_pos (by omega), e, last_sync h hi]
  cases ho : okR s i with
  | true => rw [if_pos rfl, if_neg (by omega), show i + wd s i - wd s i = i from by omega]
  | false => simp [(ok_false_iff ho).1]
theorem lN_sync {s : ByteArray} {i : Nat} (h : Sync s i) (hi : i < s.size) : lN s ((i : Int) + (wd s i : Int)) = (wd s i : Int) := by
  have hp := wd_pos s i hi
  have hl := wd_le s i hi
  have e : ((i : Int) + (wd s i : Int)).toNat = i + wd s i := by omega
  unfold lN
  rw [if_pos (by omega), e, last_sync h hi]
  cases ho : okR s i with
  | true => rw [if_pos rfl, if_neg (by omega)]
  | false => simp [(ok_false_iff ho).2]
theorem lK_sync {s : ByteArray} {i : Nat} (h : Sync s i) (hi : i < s.size) : lK s ((i : Int) + (wd s i : Int)) = okR s i := by
  have hp := wd_pos s i hi
  have hl := wd_le s i hi
  have e : ((i : Int) + (wd s i : Int)).toNat = i + wd s i := by omega
  unfold lK
  rw [if_pos (by omega), e, last_sync h hi]
  cases ho : okR s i with
  | true => rw [if_pos rfl]; exact decide_eq_true (by omega)
  | false => rw [if_neg (by decide)]; rfl

/-- from the ends of the pieces ahead the place where one begins -/
def endsL (s : ByteArray) (l : List Nat) : List Int := l.map fun (i : Nat) => ((i : Nat) : Int) + ((wd s i : Nat) : Int)

/-- l is the beginning of a text's cut, which goes on at a place -/
def Chain (s : ByteArray) : List Nat → Nat → Prop
  | l, pos => Sync s pos ∧ (∀ i ∈ l, i < s.size ∧ Sync s i) ∧ (∀ k, k < l.length → (endsL s l)[k]? = some ((l[k + 1]?.getD pos : Nat) : Int)) ∧ l[0]?.getD pos = 0

theorem chain_nil (s : ByteArray) : Chain s [] 0 := ⟨sync_zero s, fun i h => (by cases h), fun k h => (by cases h), rfl⟩

theorem chain_next {s : ByteArray} {l : List Nat} {pos : Nat} (h : Chain s l pos) (hp : pos < s.size) : Chain s (l ++ [pos]) (pos + wd s pos) := by
  obtain ⟨h1, h2, h3, h4⟩ := h
  refine ⟨sync_next h1 hp, fun i hi => ?_, fun k hk => ?_, ?_⟩
  · rcases List.mem_append.1 hi with hi | hi
    · exact h2 i hi
    · simp at hi; subst hi; exact ⟨hp, h1⟩
  · rw [List.length_append, List.length_singleton] at hk
    by_cases hkl : k < l.length
    · have := h3 k hkl
      rw [endsL, List.map_append, List.getElem?_append_left (by simpa using hkl)]
      rw [endsL] at this
      rw [this]
      by_cases hk2 : k + 1 < l.length
      · rw [List.getElem?_append_left hk2]
        rw [List.getElem?_eq_getElem hk2]; rfl
      · have e : k + 1 = l.length := by omega
        rw [List.getElem?_append_right (by omega), List.getElem?_eq_none (by omega)]
        simp [e]
    · have e : k = l.length := by omega
      subst e
      rw [endsL, List.map_append, List.getElem?_append_right (by simp), List.getElem?_eq_none (l := l ++ [pos]) (by simp)]
      simp
  · cases l with
    | nil => simpa using h4
    | cons a l => simpa using h4

/-- a text's cut up to a place, with its chain -/
theorem chain_all (s : ByteArray) : ∀ (f pos : Nat) (l : List Nat), Chain s l pos → pos ≤ s.size → s.size ≤ pos + f → ∃ q, Chain s (l ++ posL s f pos) q ∧ q = s.size
  | 0, pos, l, h, h1, h2 => ⟨pos, by simpa [posL] using h, by omega⟩
  | f + 1, pos, l, h, h1, h2 => by
    by_cases hp : pos < s.size
    · have hw := wd_pos s pos hp
      have hl := wd_le s pos hp
      have ih := chain_all s f (pos + wd s pos) (l ++ [pos]) (chain_next h hp) (by omega) (by omega)
      rw [posL_step s f pos hp]
      simpa using ih
    · rw [posL_end s _ pos hp]
      exact ⟨pos, by simpa using h, by omega⟩

theorem chain_full (s : ByteArray) : Chain s (allL s) s.size := by
  obtain ⟨q, h, rfl⟩ := chain_all s s.size 0 [] (chain_nil s) (by omega) (by omega)
  simpa [allL] using h

/-- the piece that ends where a chain goes on -/
theorem chain_last {s : ByteArray} {l : List Nat} {st pos : Nat} (h : Chain s (l ++ [st]) pos) : st < s.size ∧ Sync s st ∧ st + wd s st = pos := by
  obtain ⟨_, h2, h3, _⟩ := h
  obtain ⟨a, b⟩ := h2 st (by simp)
  refine ⟨a, b, ?_⟩
  have := h3 l.length (by simp)
  simp [endsL] at this
  omega

theorem chain_prefix {s : ByteArray} {l : List Nat} {st pos : Nat} (h : Chain s (l ++ [st]) pos) : Chain s l st := by
  obtain ⟨h1, h2, h3, h4⟩ := h
  refine ⟨(h2 st (by simp)).2, fun i hi => h2 i (List.mem_append_left _ hi), fun k hk => ?_, ?_⟩
  · have := h3 k (by simp; omega)
    rw [endsL, List.map_append, List.getElem?_append_left (by simpa using hk)] at this
    rw [endsL, this]
    by_cases hk2 : k + 1 < l.length
    · rw [List.getElem?_append_left hk2, List.getElem?_eq_getElem hk2]; rfl
    · rw [List.getElem?_append_right (by omega), List.getElem?_eq_none (l := l) (by omega)]
      simp [show k + 1 - l.length = 0 from by omega]
  · cases l with
    | nil => simpa using h4
    | cons a l => simpa using h4

/-- what Decode answers at any number -/
def dR (s : ByteArray) (a : Int) : Int := if 0 ≤ a ∧ a < s.size then (rn s a.toNat : Int) else 0
def dN (s : ByteArray) (a : Int) : Int := if 0 ≤ a ∧ a < s.size then (wd s a.toNat : Int) else 0
def dK (s : ByteArray) (a : Int) : Bool := if 0 ≤ a ∧ a < s.size then okR s a.toNat else false
theorem dR_in (s : ByteArray) (k : Nat) (h : k < s.size) : dR s (k : Int) = rn s k := by unfold dR; rw [if_pos (by omega), Int.toNat_natCast]
theorem dN_in (s : ByteArray) (k : Nat) (h : k < s.size) : dN s (k : Int) = wd s k := by unfold dN; rw [if_pos (by omega), Int.toNat_natCast]
theorem dK_in (s : ByteArray) (k : Nat) (h : k < s.size) : dK s (k : Int) = okR s k := by unfold dK; rw [if_pos (by omega), Int.toNat_natCast]

end Go.Proofs.YtkndjbmlkfpfoaaGreatDoor

/-
  Plain facts: a part of a text has the pieces that lie in it.
-/
set_option linter.unusedSimpArgs false
set_option linter.unusedVariables false
namespace Go.Proofs.YtkndjbmlkfpfoaaGreatDoor
open Go.Lib

theorem size_ext (s : ByteArray) (b e : Nat) (he : e ≤ s.size) : (s.extract b e).size = e - b := by
  rw [ByteArray.size_extract]; omega

theorem by_ext (s : ByteArray) (b e i : Nat) (he : e ≤ s.size) (h : b + i < e) : by_ (s.extract b e) i = by_ s (b + i) := by
  rw [← by_get (s.extract b e) i (by rw [size_ext s b e he]; omega), ← by_get s (b + i) (by omega)]
  congr 1
  exact ByteArray.getElem_extract ..

theorem dec_false {s : ByteArray} {k : Nat} (h : okR s k = false) : Utf8.decode s k = (65533, 1) := Prod.ext (ok_false_iff h).1 (ok_false_iff h).2

theorem ok_same {s t : ByteArray} {i j : Nat} (h : Utf8.decode t i = Utf8.decode s j) : okR t i = okR s j := by unfold okR rn wd; rw [h]
theorem wd_same {s t : ByteArray} {i j : Nat} (h : Utf8.decode t i = Utf8.decode s j) : wd t i = wd s j := by unfold wd; rw [h]
theorem rn_same {s t : ByteArray} {i j : Nat} (h : Utf8.decode t i = Utf8.decode s j) : rn t i = rn s j := by unfold rn; rw [h]

theorem g1_same {s t : ByteArray} {i j : Nat} (h0 : by_ t i = by_ s j) (h1 : by_ t (i + 1) = by_ s (j + 1)) (h : g1 s j) : g1 t i := by unfold g1 at *; rw [h0, h1]; exact h
theorem g2_same {s t : ByteArray} {i j : Nat} (h1 : by_ t (i + 2) = by_ s (j + 2)) (h : g2 s j) : g2 t i := by unfold g2 at *; rw [h1]; exact h
theorem g3_same {s t : ByteArray} {i j : Nat} (h1 : by_ t (i + 3) = by_ s (j + 3)) (h : g3 s j) : g3 t i := by unfold g3 at *; rw [h1]; exact h

/-- a rune's bytes in another text: the same rune -/
theorem dec_move {s t : ByteArray} {i j : Nat} (hj : j < s.size) (ho : okR s j = true) (hn : i + wd s j ≤ t.size) (hb : ∀ q, q < wd s j → by_ t (i + q) = by_ s (j + q)) : Utf8.decode t i = Utf8.decode s j := by
  rcases ok_cases s j hj ho with ⟨h1, hr, hw⟩ | ⟨hc, hn1, hg, hr, hw⟩ | ⟨hc, hn1, hg, hg2, hr, hw⟩ | ⟨hc, hn1, hg, hg2, hg3, hr, hw⟩
  · have b0 := hb 0 (by omega)
    simp only [Nat.add_zero] at b0
    rw [dec_one s j h1, dec_one t i (by omega), b0]
  · have b0 := hb 0 (by omega)
    have b1 := hb 1 (by omega)
    simp only [Nat.add_zero] at b0
    rw [dec_two s j hj hc hn1 hg, dec_two t i (by omega) (by rw [b0]; exact hc) (by omega) (g1_same b0 b1 hg), b0, b1]
  · have b0 := hb 0 (by omega)
    have b1 := hb 1 (by omega)
    have b2 := hb 2 (by omega)
    simp only [Nat.add_zero] at b0
    rw [dec_three s j hj hc hn1 hg hg2, dec_three t i (by omega) (by rw [b0]; exact hc) (by omega) (g1_same b0 b1 hg) (g2_same b2 hg2), b0, b1, b2]
  · have b0 := hb 0 (by omega)
    have b1 := hb 1 (by omega)
    have b2 := hb 2 (by omega)
    have b3 := hb 3 (by omega)
    simp only [Nat.add_zero] at b0
    rw [dec_four s j hj hc hn1 hg hg2 hg3, dec_four t i (by omega) (by rw [b0]; exact hc) (by omega) (g1_same b0 b1 hg) (g2_same b2 hg2) (g3_same b3 hg3), b0, b1, b2, b3]

/-- a rune of a part is one of the whole -/
theorem dec_up (s : ByteArray) (b e i : Nat) (he : e ≤ s.size) (hi : b + i < e) (ho : okR (s.extract b e) i = true) : Utf8.decode s (b + i) = Utf8.decode (s.extract b e) i := by
  have hz := size_ext s b e he
  have hl := wd_le (s.extract b e) i (by omega)
  refine dec_move (by omega) ho (by omega) (fun q hq => ?_)
  rw [by_ext s b e (i + q) he (by omega), Nat.add_assoc]

/-- a rune of the whole that lies in a part is one of it -/
theorem dec_down (s : ByteArray) (b e i : Nat) (he : e ≤ s.size) (hi : b + i < e) (ho : okR s (b + i) = true) (hw : b + i + wd s (b + i) ≤ e) : Utf8.decode (s.extract b e) i = Utf8.decode s (b + i) := by
  have hz := size_ext s b e he
  refine dec_move (by omega) ho (by omega) (fun q hq => ?_)
  rw [by_ext s b e (i + q) he (by omega), Nat.add_assoc]

theorem dec_ext {s : ByteArray} {e : Nat} (b i : Nat) (hs : Sync s e) (he : e ≤ s.size) (hi : b + i < e) : Utf8.decode (s.extract b e) i = Utf8.decode s (b + i) := by
  cases ho : okR s (b + i) with
  | true => exact dec_down s b e i he hi ho (hs _ hi ho)
  | false =>
    cases ho2 : okR (s.extract b e) i with
    | true => exact (dec_up s b e i he hi ho2).symm
    | false => rw [dec_false ho, dec_false ho2]

/-- the places of the pieces from a place on -/
def frm (s : ByteArray) (i : Nat) : List Nat := posL s (s.size - i) i

theorem posL_fuel (s : ByteArray) : ∀ (f g i : Nat), s.size ≤ i + f → s.size ≤ i + g → posL s f i = posL s g i
  | 0, g, i, h, h' => by rw [posL_end s 0 i (by omega), posL_end s g i (by omega)]
  | f + 1, 0, i, h, h' => by rw [posL_end s 0 i (by omega), posL_end s (f + 1) i (by omega)]
  | f + 1, g + 1, i, h, h' => by
    by_cases hi : i < s.size
    · have := wd_pos s i hi
      rw [posL_step s f i hi, posL_step s g i hi, posL_fuel s f g _ (by omega) (by omega)]
    · rw [posL_end s _ i hi, posL_end s _ i hi]

theorem frm_end (s : ByteArray) (i : Nat) (h : ¬ i < s.size) : frm s i = [] := posL_end s _ i h
theorem frm_step (s : ByteArray) (i : Nat) (h : i < s.size) : frm s i = i :: frm s (i + wd s i) := by
  have hw := wd_pos s i h
  unfold frm
  obtain ⟨f, hf⟩ : ∃ f, s.size - i = f + 1 := ⟨s.size - i - 1, by omega⟩
  rw [hf, posL_step s f i h, posL_fuel s f (s.size - (i + wd s i)) _ (by omega) (by omega)]
theorem allL_frm (s : ByteArray) : allL s = frm s 0 := rfl
theorem posL_frm (s : ByteArray) (f i : Nat) (h : s.size ≤ i + f) : posL s f i = frm s i := posL_fuel s _ _ i h (by omega)

theorem frm_ge (s : ByteArray) : ∀ (n i : Nat), s.size - i ≤ n → ∀ j ∈ frm s i, i ≤ j ∧ j < s.size
  | 0, i, h, j, hj => by rw [frm_end s i (by omega)] at hj; cases hj
  | n + 1, i, h, j, hj => by
    by_cases hi : i < s.size
    · have hw := wd_pos s i hi
      rw [frm_step s i hi] at hj
      rcases List.mem_cons.1 hj with rfl | hj
      · exact ⟨Nat.le_refl _, hi⟩
      · have := frm_ge s n (i + wd s i) (by omega) j hj
        omega
    · rw [frm_end s i hi] at hj; cases hj

theorem frm_sorted (s : ByteArray) : ∀ (n i : Nat), s.size - i ≤ n → (frm s i).Pairwise (· < ·)
  | 0, i, h => by rw [frm_end s i (by omega)]; exact List.Pairwise.nil
  | n + 1, i, h => by
    by_cases hi : i < s.size
    · have hw := wd_pos s i hi
      rw [frm_step s i hi]
      refine List.Pairwise.cons (fun j hj => ?_) (frm_sorted s n (i + wd s i) (by omega))
      have := frm_ge s _ (i + wd s i) (Nat.le_refl _) j hj
      omega
    · rw [frm_end s i hi]; exact List.Pairwise.nil
theorem allL_sorted (s : ByteArray) : (allL s).Pairwise (· < ·) := frm_sorted s _ 0 (Nat.le_refl _)

theorem mem_frm {s : ByteArray} {i : Nat} (hi : i < s.size) (h : Sync s i) : ∀ (n p : Nat), i - p ≤ n → p ≤ i → i ∈ frm s p
  | 0, p, h1, h2 => by
    obtain rfl : p = i := by omega
    rw [frm_step s p hi]; simp
  | n + 1, p, h1, h2 => by
    by_cases e : p = i
    · subst e; rw [frm_step s p hi]; simp
    · have hp : p < s.size := by omega
      have hw := wd_pos s p hp
      have hle : p + wd s p ≤ i := by
        cases ho : okR s p with
        | true => exact h p (by omega) ho
        | false => have := (ok_false_iff ho).2; omega
      rw [frm_step s p hp]
      exact List.mem_cons_of_mem _ (mem_frm hi h n _ (by omega) hle)

theorem mem_allL {s : ByteArray} {i : Nat} : i ∈ allL s ↔ i < s.size ∧ Sync s i :=
  ⟨fun h => (chain_full s).2.1 i h, fun h => mem_frm h.1 h.2 i 0 (by omega) (by omega)⟩

/-- behind a place of the cut comes the piece behind it -/
theorem frm_split (s : ByteArray) : ∀ (pre : List Nat) (p j : Nat) (rest : List Nat), frm s p = pre ++ j :: rest → j < s.size ∧ j :: rest = frm s j ∧ rest = frm s (j + wd s j)
  | [], p, j, rest, h => by
    by_cases hp : p < s.size
    · rw [frm_step s p hp] at h
      simp at h
      obtain ⟨rfl, rfl⟩ := h
      exact ⟨hp, (frm_step s p hp).symm, rfl⟩
    · rw [frm_end s p hp] at h; cases h
  | a :: pre, p, j, rest, h => by
    by_cases hp : p < s.size
    · rw [frm_step s p hp] at h
      simp at h
      exact frm_split s pre _ j rest h.2
    · rw [frm_end s p hp] at h; cases h

/-- the pieces from a place on: those of the part up to a cut, and those behind it -/
theorem frm_ext {s : ByteArray} {e : Nat} (b : Nat) (hs : Sync s e) (he : e ≤ s.size) : ∀ (n i : Nat), e - (b + i) ≤ n → b + i ≤ e → frm s (b + i) = (frm (s.extract b e) i).map (b + ·) ++ frm s e
  | 0, i, h1, h2 => by
    have hz := size_ext s b e he
    rw [frm_end (s.extract b e) i (by omega), show b + i = e from by omega]; rfl
  | n + 1, i, h1, h2 => by
    have hz := size_ext s b e he
    by_cases hi : b + i < e
    · have hd := dec_ext b i hs he hi
      have hw := wd_pos s (b + i) (by omega)
      have hle : b + i + wd s (b + i) ≤ e := by
        cases ho : okR s (b + i) with
        | true => exact hs _ hi ho
        | false => have := (ok_false_iff ho).2; omega
      rw [frm_step s (b + i) (by omega), frm_step (s.extract b e) i (by omega), wd_same hd, Nat.add_assoc, frm_ext b hs he n (i + wd s (b + i)) (by omega) (by omega)]
      simp
    · rw [frm_end (s.extract b e) i (by omega), show b + i = e from by omega]; rfl

theorem allL_ext {s : ByteArray} {b e : Nat} (hs : Sync s e) (he : e ≤ s.size) (hb : b ≤ e) : frm s b = (allL (s.extract b e)).map (b + ·) ++ frm s e := by
  have := frm_ext b hs he (e - b) 0 (by omega) (by omega)
  simpa [allL_frm] using this

theorem rn_ext {s : ByteArray} {b e i : Nat} (hs : Sync s e) (he : e ≤ s.size) (hi : i ∈ allL (s.extract b e)) : rn (s.extract b e) i = rn s (b + i) := by
  have h := (mem_allL.1 hi).1
  rw [size_ext s b e he] at h
  exact rn_same (dec_ext b i hs he (by omega))

/-- a place of the cut of the whole lies in the cut of a part -/
theorem sync_down {s : ByteArray} {b e i : Nat} (he : e ≤ s.size) (hi : b + i < e) (h : Sync s (b + i)) : i ∈ allL (s.extract b e) := by
  have hz := size_ext s b e he
  refine mem_allL.2 ⟨by omega, fun j hj ho => ?_⟩
  have hd := dec_up s b e j he (by omega) ho
  have := h (b + j) (by omega) (by rw [ok_same hd]; exact ho)
  rw [wd_same hd] at this
  omega

end Go.Proofs.YtkndjbmlkfpfoaaGreatDoor
