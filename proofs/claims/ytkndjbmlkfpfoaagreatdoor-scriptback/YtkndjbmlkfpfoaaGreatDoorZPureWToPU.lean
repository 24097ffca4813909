/-
  Plain facts: a piece has a byte at least; what is no rune is the rune fffd with one byte.
-/
import Derived.Test.YtkndjbmlkfpfoaaGreatDoorZPure

namespace Go.Proofs.YtkndjbmlkfpfoaaGreatDoor
open Go.Lib

theorem wd_pos (s : ByteArray) (k : Nat) (hk : k < s.size) : 1 ≤ wd s k := by
  have h4 := hW_le (by_ s k)
  by_cases h1 : by_ s k ≤ 127
  · rw [wd_of (dec_one s k h1)]; decide
  · by_cases h0 : hW (by_ s k) = 0
    · rw [wd_of (dec_bad s k h0)]; decide
    · by_cases hn : s.size - k < hW (by_ s k)
      · rw [wd_of (dec_short s k hk hn)]; decide
      · have hne : hW (by_ s k) ≠ 1 := by unfold hW; (repeat' split) <;> omega
        by_cases hg1 : g1 s k
        · rcases (by omega : hW (by_ s k) = 2 ∨ hW (by_ s k) = 3 ∨ hW (by_ s k) = 4) with hc | hc | hc
          · rw [wd_of (dec_two s k hk hc (by omega) hg1)]; decide
          · by_cases hg2 : g2 s k
            · rw [wd_of (dec_three s k hk hc (by omega) hg1 hg2)]; decide
            · rw [wd_of (dec_no2 s k hk (by omega) hg2)]; decide
          · by_cases hg2 : g2 s k
            · by_cases hg3 : g3 s k
              · rw [wd_of (dec_four s k hk hc (by omega) hg1 hg2 hg3)]; decide
              · rw [wd_of (dec_no3 s k hk hc hg3)]; decide
            · rw [wd_of (dec_no2 s k hk (by omega) hg2)]; decide
        · rw [wd_of (dec_no1 s k hk (by omega) hg1)]; decide

theorem ok_false_iff {s : ByteArray} {k : Nat} (h : okR s k = false) : rn s k = 65533 ∧ wd s k = 1 := by
  unfold okR at h
  simpa using h

end Go.Proofs.YtkndjbmlkfpfoaaGreatDoor

/-
  Plain facts on a text's runes: the places of its pieces, from the beginning and from the end.
-/
set_option linter.unusedSimpArgs false
set_option linter.unusedVariables false
namespace Go.Proofs.YtkndjbmlkfpfoaaGreatDoor
open Go.Lib

/-- the four ways to be a rune -/
theorem ok_cases (s : ByteArray) (k : Nat) (hk : k < s.size) (ho : okR s k = true) :
    (by_ s k ≤ 127 ∧ rn s k = by_ s k ∧ wd s k = 1) ∨
    (hW (by_ s k) = 2 ∧ k + 2 ≤ s.size ∧ g1 s k ∧ rn s k = by_ s k % 32 * 64 + by_ s (k + 1) % 64 ∧ wd s k = 2) ∨
    (hW (by_ s k) = 3 ∧ k + 3 ≤ s.size ∧ g1 s k ∧ g2 s k ∧ rn s k = by_ s k % 16 * 4096 + by_ s (k + 1) % 64 * 64 + by_ s (k + 2) % 64 ∧ wd s k = 3) ∨
    (hW (by_ s k) = 4 ∧ k + 4 ≤ s.size ∧ g1 s k ∧ g2 s k ∧ g3 s k ∧ rn s k = by_ s k % 8 * 262144 + by_ s (k + 1) % 64 * 4096 + by_ s (k + 2) % 64 * 64 + by_ s (k + 3) % 64 ∧ wd s k = 4) := by
  have h4 := hW_le (by_ s k)
  have no : ∀ {P : Prop}, Utf8.decode s k = (65533, 1) → P := fun h => by rw [ok_bad h] at ho; cases ho
  by_cases h1 : by_ s k ≤ 127
  · have hd := dec_one s k h1
    exact .inl ⟨h1, rn_of hd, wd_of hd⟩
  · by_cases h0 : hW (by_ s k) = 0
    · exact no (dec_bad s k h0)
    · by_cases hn : s.size - k < hW (by_ s k)
      · exact no (dec_short s k hk hn)
      · have hne : hW (by_ s k) ≠ 1 := by unfold hW; (repeat' split) <;> omega
        by_cases hg1 : g1 s k
        · rcases (by omega : hW (by_ s k) = 2 ∨ hW (by_ s k) = 3 ∨ hW (by_ s k) = 4) with hc | hc | hc
          · have hd := dec_two s k hk hc (by omega) hg1
            exact .inr (.inl ⟨hc, by omega, hg1, rn_of hd, wd_of hd⟩)
          · by_cases hg2 : g2 s k
            · have hd := dec_three s k hk hc (by omega) hg1 hg2
              exact .inr (.inr (.inl ⟨hc, by omega, hg1, hg2, rn_of hd, wd_of hd⟩))
            · exact no (dec_no2 s k hk (by omega) hg2)
          · by_cases hg2 : g2 s k
            · by_cases hg3 : g3 s k
              · have hd := dec_four s k hk hc (by omega) hg1 hg2 hg3
                exact .inr (.inr (.inr ⟨hc, by omega, hg1, hg2, hg3, rn_of hd, wd_of hd⟩))
              · exact no (dec_no3 s k hk hc hg3)
            · exact no (dec_no2 s k hk (by omega) hg2)
        · exact no (dec_no1 s k hk (by omega) hg1)

theorem hW2_range {b : Nat} (h : hW b = 2) : 194 ≤ b ∧ b ≤ 223 := by unfold hW at h; (repeat' split at h) <;> omega
theorem hW3_range {b : Nat} (h : hW b = 3) : 224 ≤ b ∧ b ≤ 239 := by unfold hW at h; (repeat' split at h) <;> omega
theorem hW4_range {b : Nat} (h : hW b = 4) : 240 ≤ b ∧ b ≤ 244 := by unfold hW at h; (repeat' split at h) <;> omega
/-- the second byte's range, by the first one -/
theorem g1_range {s : ByteArray} {k : Nat} (hb : 194 ≤ by_ s k ∧ by_ s k ≤ 244) (h : g1 s k) :
    128 ≤ by_ s (k + 1) ∧ by_ s (k + 1) ≤ 191 ∧ (by_ s k = 224 → 160 ≤ by_ s (k + 1)) ∧ (by_ s k = 237 → by_ s (k + 1) ≤ 159) ∧ (by_ s k = 240 → 144 ≤ by_ s (k + 1)) ∧ (by_ s k = 244 → by_ s (k + 1) ≤ 143) := by
  unfold g1 hLo hHi at h
  (repeat' split at h) <;> omega


theorem wd_le (s : ByteArray) (k : Nat) (hk : k < s.size) : k + wd s k ≤ s.size ∧ wd s k ≤ 4 := by
  cases ho : okR s k with
  | false => have := ok_false_iff ho; omega
  | true => rcases ok_cases s k hk ho with ⟨h1, hr, hw⟩ | ⟨hc, hn, hg, hr, hw⟩ | ⟨hc, hn, hg, hg2, hr, hw⟩ | ⟨hc, hn, hg, hg2, hg3, hr, hw⟩ <;> omega


/-- the places of the pieces of a text, from a place on -/
def posL (s : ByteArray) : Nat → Nat → List Nat
  | 0, _ => []
  | f + 1, i => if i < s.size then i :: posL s f (i + wd s i) else []
def allL (s : ByteArray) : List Nat := posL s s.size 0

theorem posL_end (s : ByteArray) (f i : Nat) (h : ¬ i < s.size) : posL s f i = [] := by
  cases f with
  | zero => rfl
  | succ f => simp [posL, h]
theorem posL_step (s : ByteArray) (f i : Nat) (h : i < s.size) : posL s (f + 1) i = i :: posL s f (i + wd s i) := by simp [posL, h]
theorem posL_length (s : ByteArray) : ∀ f i, (posL s f i).length ≤ f
  | 0, _ => by simp [posL]
  | f + 1, i => by
    unfold posL
    split
    · have := posL_length s f (i + wd s i); simp; omega
    · simp
theorem allL_length (s : ByteArray) : (allL s).length ≤ s.size := posL_length s _ _

/-- a place of a text -/
abbrev Pl (s : ByteArray) := { i : Nat // i < s.size }


/-- n bytes ahead of e are a rune -/
def fit (s : ByteArray) (e n : Nat) : Bool := decide (1 ≤ n ∧ n ≤ e) && okR s (e - n) && (wd s (e - n) == n)
/-- within a rune no rune begins -/
theorem ok_inside {s : ByteArray} {p j : Nat} (hp : p < s.size) (h1 : p < j) (h2 : j < p + wd s p) : okR s j = false := by
  have hok : okR s p = true := by
    cases ho : okR s p with
    | true => rfl
    | false => have := ok_false_iff ho; omega
  have hb : 128 ≤ by_ s j ∧ by_ s j ≤ 191 := by
    rcases ok_cases s p hp hok with ⟨_, _, hw⟩ | ⟨hc, hn, hg, hr, hw⟩ | ⟨hc, hn, hg, hg2, hr, hw⟩ | ⟨hc, hn, hg, hg2, hg3, hr, hw⟩
    · omega
    · have hr := hW2_range hc
      have hg' := g1_range (by omega) hg
      obtain rfl : j = p + 1 := by omega
      omega
    · have hr := hW3_range hc
      have hg' := g1_range (by omega) hg
      unfold g2 at hg2
      rcases (by omega : j = p + 1 ∨ j = p + 2) with rfl | rfl
      · omega
      · omega
    · have hr := hW4_range hc
      have hg' := g1_range (by omega) hg
      unfold g2 at hg2
      unfold g3 at hg3
      rcases (by omega : j = p + 1 ∨ j = p + 2 ∨ j = p + 3) with rfl | rfl | rfl
      · omega
      · omega
      · omega
  exact ok_bad (dec_bad s j (by unfold hW; rw [if_neg (by omega), if_pos (by omega)]))

/-- no rune that begins ahead of a place goes beyond it -/
def Sync (s : ByteArray) (i : Nat) : Prop := ∀ j, j < i → okR s j = true → j + wd s j ≤ i

theorem sync_zero (s : ByteArray) : Sync s 0 := fun j h _ => by omega
theorem sync_next {s : ByteArray} {i : Nat} (h : Sync s i) (hi : i < s.size) : Sync s (i + wd s i) := fun j hj ho => by
  by_cases h1 : j < i
  · have := h j h1 ho; omega
  · by_cases h2 : j = i
    · subst h2; exact Nat.le_refl _
    · rw [ok_inside hi (by omega) hj] at ho; cases ho

/-- from the ends of the pieces ahead the place where one begins -/
def endsL (s : ByteArray) (l : List Nat) : List Int := l.map fun (i : Nat) => ((i : Nat) : Int) + ((wd s i : Nat) : Int)

/-- l is the beginning of a text's cut, which goes on at a place -/
def Chain (s : ByteArray) : List Nat → Nat → Prop
  | l, pos => Sync s pos ∧ (∀ i ∈ l, i < s.size ∧ Sync s i) ∧ (∀ k, k < l.length → (endsL s l)[k]? = some ((l[k + 1]?.getD pos : Nat) : Int)) ∧ l[0]?.getD pos = 0

theorem chain_nil (s : ByteArray) : Chain s [] 0 := ⟨sync_zero s, fun i h => (by cases h), fun k h => (by cases h), rfl⟩

theorem chain_next {s : ByteArray} {l : List Nat} {pos : Nat} (h : Chain s l pos) (hp : pos < s.size) : Chain s (l ++ [pos]) (pos + wd s pos) := by
  obtain ⟨h1, h2, h3, h4⟩ := h
  refine ⟨sync_next h1 hp, fun i hi => ?_, fun k hk => ?_, ?_⟩
  · rcases List.mem_append.1 hi with hi | hi
    · exact h2 i hi
    · simp at hi; subst hi; exact ⟨hp, h1⟩
  · rw [List.length_append, List.length_singleton] at hk
    by_cases hkl : k < l.length
    · have := h3 k hkl
      rw [endsL, List.map_append, List.getElem?_append_left (by simpa using hkl)]
      rw [endsL] at this
      rw [this]
      by_cases hk2 : k + 1 < l.length
      · rw [List.getElem?_append_left hk2]
        rw [List.getElem?_eq_getElem hk2]; rfl
      · have e : k + 1 = l.length := by omega
        rw [List.getElem?_append_right (by omega), List.getElem?_eq_none (by omega)]
        simp [e]
    · have e : k = l.length := by omega
      subst e
      rw [endsL, List.map_append, List.getElem?_append_right (by simp), List.getElem?_eq_none (l := l ++ [pos]) (by simp)]
      simp
  · cases l with
    | nil => simpa using h4
    | cons a l => simpa using h4

/-- a text's cut up to a place, with its chain -/
theorem chain_all (s : ByteArray) : ∀ (f pos : Nat) (l : List Nat), Chain s l pos → pos ≤ s.size → s.size ≤ pos + f → ∃ q, Chain s (l ++ posL s f pos) q ∧ q = s.size
  | 0, pos, l, h, h1, h2 => ⟨pos, by simpa [posL] using h, by omega⟩
  | f + 1, pos, l, h, h1, h2 => by
    by_cases hp : pos < s.size
    · have hw := wd_pos s pos hp
      have hl := wd_le s pos hp
      have ih := chain_all s f (pos + wd s pos) (l ++ [pos]) (chain_next h hp) (by omega) (by omega)
      rw [posL_step s f pos hp]
      simpa using ih
    · rw [posL_end s _ pos hp]
      exact ⟨pos, by simpa using h, by omega⟩

theorem chain_full (s : ByteArray) : Chain s (allL s) s.size := by
  obtain ⟨q, h, rfl⟩ := chain_all s s.size 0 [] (chain_nil s) (by omega) (by omega)
  simpa [allL] using h

/-- what Decode answers at any number -/
def dR (s : ByteArray) (a : Int) : Int := if 0 ≤ a ∧ a < s.size then (rn s a.toNat : Int) else 0
def dN (s : ByteArray) (a : Int) : Int := if 0 ≤ a ∧ a < s.size then (wd s a.toNat : Int) else 0
def dK (s : ByteArray) (a : Int) : Bool := if 0 ≤ a ∧ a < s.size then okR s a.toNat else false
theorem dR_in (s : ByteArray) (k : Nat) (h : k < s.size) : dR s (k : Int) = rn s k := by unfold dR; rw [if_pos (by omega), Int.toNat_natCast]
theorem dK_in (s : ByteArray) (k : Nat) (h : k < s.size) : dK s (k : Int) = okR s k := by unfold dK; rw [if_pos (by omega), Int.toNat_natCast]

end Go.Proofs.YtkndjbmlkfpfoaaGreatDoor
