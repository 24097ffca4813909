/-
  Plain facts: a rune encoded is the bytes that it was read from; a text that is good all through is its runes encoded.
-/
import Derived.Test.YtkndjbmlkfpfoaaGreatDoorZPureToPX
import Derived.Test.YtkndjbmlkfpfoaaGreatDoorProg
import Derived.WalkKit
import Derived.WalkSpells
import Derived.WalkLawsBesides
import Derived.Maps.OwnSet
import Derived.Maps.RangeWalk
import Derived.BigCall

set_option linter.unusedSimpArgs false
set_option linter.unusedVariables false
namespace Go.Proofs.YtkndjbmlkfpfoaaGreatDoor
open Go.Lib

/-- the bytes of a rune -/
def bL (b : ByteArray) : List UInt8 := b.data.toList
def encL (r : Int) : List UInt8 := bL (Utf8.encode r)
theorem encL_of {r : Int} {x : List UInt8} (h : Utf8.encode r = ⟨x.toArray⟩) : encL r = x := by
  show bL (Utf8.encode r) = x
  rw [h]; rfl

theorem by_ofNat (s : ByteArray) (i : Nat) : UInt8.ofNat (by_ s i) = s.get! i := by unfold by_; exact UInt8.ofNat_toNat
theorem ofNat_by {s : ByteArray} {i n : Nat} (h : n = by_ s i) : UInt8.ofNat n = s.get! i := by rw [h]; exact by_ofNat s i

/-- so many bytes of a text, from a place on -/
def subL (s : ByteArray) (i n : Nat) : List UInt8 := (s.data.toList.drop i).take n

theorem get_list (s : ByteArray) (i : Nat) (h : i < s.size) : s.data.toList[i]'(by simpa using h) = s.get! i := by
  simp [ByteArray.get!, getElem!_pos, h]

theorem drop_step (s : ByteArray) (i : Nat) (h : i < s.size) : s.data.toList.drop i = s.get! i :: s.data.toList.drop (i + 1) := by
  rw [List.drop_eq_getElem_cons (by simpa using h), get_list s i h]

theorem subL_1 (s : ByteArray) (i : Nat) (h : i + 1 ≤ s.size) : subL s i 1 = [s.get! i] := by
  unfold subL; rw [drop_step s i (by omega)]; simp
theorem subL_2 (s : ByteArray) (i : Nat) (h : i + 2 ≤ s.size) : subL s i 2 = [s.get! i, s.get! (i + 1)] := by
  unfold subL; rw [drop_step s i (by omega), drop_step s (i + 1) (by omega)]; simp
theorem subL_3 (s : ByteArray) (i : Nat) (h : i + 3 ≤ s.size) : subL s i 3 = [s.get! i, s.get! (i + 1), s.get! (i + 2)] := by
  unfold subL; rw [drop_step s i (by omega), drop_step s (i + 1) (by omega), drop_step s (i + 1 + 1) (by omega)]; simp
theorem subL_4 (s : ByteArray) (i : Nat) (h : i + 4 ≤ s.size) : subL s i 4 = [s.get! i, s.get! (i + 1), s.get! (i + 2), s.get! (i + 3)] := by
  unfold subL; rw [drop_step s i (by omega), drop_step s (i + 1) (by omega), drop_step s (i + 1 + 1) (by omega), drop_step s (i + 1 + 1 + 1) (by omega)]; simp

theorem val_ok (c : Nat) (h : c < 55296 ∨ (57344 ≤ c ∧ c ≤ 1114111)) : Utf8.valid (c : Int) = true := by
  unfold Utf8.valid; simp only [Bool.or_eq_true, Bool.and_eq_true, decide_eq_true_eq]; omega
theorem utf1 (c : Nat) (h : c < 128) (hv : Utf8.valid (c : Int) = true) : Utf8.encode (c : Int) = ⟨#[UInt8.ofNat c]⟩ := by
  simp only [Utf8.encode, hv, if_true, Int.toNat_natCast, h]
theorem utf2 (c : Nat) (h : ¬ c < 128) (h2 : c < 2048) (hv : Utf8.valid (c : Int) = true) : Utf8.encode (c : Int) = ⟨#[UInt8.ofNat (192 + c / 64), UInt8.ofNat (128 + c % 64)]⟩ := by
  simp only [Utf8.encode, hv, if_true, Int.toNat_natCast, h, if_false, h2]
theorem utf3 (c : Nat) (h : ¬ c < 128) (h2 : ¬ c < 2048) (h3 : c < 65536) (hv : Utf8.valid (c : Int) = true) : Utf8.encode (c : Int) = ⟨#[UInt8.ofNat (224 + c / 4096), UInt8.ofNat (128 + c / 64 % 64), UInt8.ofNat (128 + c % 64)]⟩ := by
  simp only [Utf8.encode, hv, if_true, Int.toNat_natCast, h, if_false, h2, h3]
theorem utf4 (c : Nat) (h : ¬ c < 128) (h2 : ¬ c < 2048) (h3 : ¬ c < 65536) (hv : Utf8.valid (c : Int) = true) : Utf8.encode (c : Int) = ⟨#[UInt8.ofNat (240 + c / 262144), UInt8.ofNat (128 + c / 4096 % 64), UInt8.ofNat (128 + c / 64 % 64), UInt8.ofNat (128 + c % 64)]⟩ := by
  simp only [Utf8.encode, hv, if_true, Int.toNat_natCast, h, if_false, h2, h3]

theorem enc1 (c : Nat) (h : c < 128) : encL (c : Int) = [UInt8.ofNat c] := by
  exact encL_of (utf1 c h (val_ok c (by omega)))
theorem enc2 (c : Nat) (h : ¬ c < 128) (h2 : c < 2048) : encL (c : Int) = [UInt8.ofNat (192 + c / 64), UInt8.ofNat (128 + c % 64)] := by
  exact encL_of (utf2 c h h2 (val_ok c (by omega)))
theorem enc3 (c : Nat) (h : ¬ c < 2048) (h2 : c < 65536) (hv' : c < 55296 ∨ 57344 ≤ c) : encL (c : Int) = [UInt8.ofNat (224 + c / 4096), UInt8.ofNat (128 + c / 64 % 64), UInt8.ofNat (128 + c % 64)] := by
  exact encL_of (utf3 c (by omega) h h2 (val_ok c (by omega)))
theorem enc4 (c : Nat) (h : ¬ c < 65536) (h2 : c ≤ 1114111) : encL (c : Int) = [UInt8.ofNat (240 + c / 262144), UInt8.ofNat (128 + c / 4096 % 64), UInt8.ofNat (128 + c / 64 % 64), UInt8.ofNat (128 + c % 64)] := by
  exact encL_of (utf4 c (by omega) (by omega) h (val_ok c (by omega)))

theorem enc_ok (s : ByteArray) (k : Nat) (hk : k < s.size) (ho : okR s k = true) : encL (rn s k : Nat) = subL s k (wd s k) := by
  rcases ok_cases s k hk ho with ⟨h1, hr, hw⟩ | ⟨hc, hn, hg, hr, hw⟩ | ⟨hc, hn, hg, hg2, hr, hw⟩ | ⟨hc, hn, hg, hg2, hg3, hr, hw⟩
  · rw [hr, hw, enc1 _ (by omega), subL_1 s k (by omega), by_ofNat]
  · have hb := hW2_range hc
    have hg' := g1_range (by omega) hg
    rw [hr, hw, enc2 _ (by omega) (by omega), subL_2 s k (by omega), ofNat_by (s := s) (i := k) (by omega), ofNat_by (s := s) (i := k + 1) (by omega)]
  · have hb := hW3_range hc
    have hg' := g1_range (by omega) hg
    unfold g2 at hg2
    rw [hr, hw, enc3 _ (by omega) (by omega) (by omega), subL_3 s k (by omega), ofNat_by (s := s) (i := k) (by omega), ofNat_by (s := s) (i := k + 1) (by omega), ofNat_by (s := s) (i := k + 2) (by omega)]
  · have hb := hW4_range hc
    have hg' := g1_range (by omega) hg
    unfold g2 at hg2
    unfold g3 at hg3
    rw [hr, hw, enc4 _ (by omega) (by omega), subL_4 s k (by omega), ofNat_by (s := s) (i := k) (by omega), ofNat_by (s := s) (i := k + 1) (by omega), ofNat_by (s := s) (i := k + 2) (by omega), ofNat_by (s := s) (i := k + 3) (by omega)]

/-- the bytes of the runes at places -/
def encP (s : ByteArray) (l : List Nat) : List UInt8 := l.flatMap fun i => encL (rn s i : Nat)

theorem encP_good (s : ByteArray) : ∀ (f i : Nat), s.size ≤ i + f → (∀ j ∈ posL s f i, okR s j = true) → encP s (posL s f i) = s.data.toList.drop i
  | 0, i, h, _ => by
    have : s.data.toList.length = s.size := by simp
    rw [List.drop_eq_nil_of_le (by omega)]; rfl
  | f + 1, i, h, hok => by
    by_cases hi : i < s.size
    · rw [posL_step s f i hi] at hok ⊢
      have hp := wd_pos s i hi
      have ih := encP_good s f (i + wd s i) (by omega) (fun j hj => hok j (List.mem_cons_of_mem _ hj))
      have hh := enc_ok s i hi (hok i (List.mem_cons_self ..))
      show encL (rn s i : Nat) ++ encP s (posL s f (i + wd s i)) = _
      rw [hh, ih, subL, ← List.drop_drop, List.take_append_drop]
    · have : s.data.toList.length = s.size := by simp
      rw [posL_end s _ i hi, List.drop_eq_nil_of_le (by omega)]; rfl

def ofL (l : List UInt8) : ByteArray := ⟨l.toArray⟩
theorem ofL_size (l : List UInt8) : (ofL l).size = l.length := by simp [ofL, ByteArray.size]
theorem ofL_list (l : List UInt8) : (ofL l).data.toList = l := by simp [ofL]
theorem ofL_of (s : ByteArray) : ofL s.data.toList = s := by simp [ofL]
theorem by_list (l : List UInt8) (i : Nat) (h : i < l.length) : by_ (ofL l) i = (l[i]).toNat := by
  have := by_get (ofL l) i (by rw [ofL_size]; exact h)
  rw [← this]; rfl
theorem by_at (p q : List UInt8) (j : Nat) (h : j < q.length) : by_ (ofL (p ++ q)) (p.length + j) = (q[j]).toNat := by
  rw [by_list (p ++ q) (p.length + j) (by simp; omega)]
  congr 1
  simp

/-- a number as a rune: itself, or fffd -/
def fixN (n : Int) : Nat := if Utf8.valid n then n.toNat else 65533

theorem valid_iff (n : Int) : Utf8.valid n = true ↔ (0 ≤ n ∧ n < 55296) ∨ (57344 ≤ n ∧ n ≤ 1114111) := by
  unfold Utf8.valid; simp only [Bool.or_eq_true, Bool.and_eq_true, decide_eq_true_eq]

theorem fixN_valid (n : Int) : fixN n < 55296 ∨ (57344 ≤ fixN n ∧ fixN n ≤ 1114111) := by
  unfold fixN
  cases hv : Utf8.valid n with
  | true => rw [if_pos rfl]; have := (valid_iff n).1 hv; omega
  | false => rw [if_neg (by decide)]; omega

theorem enc_fix (n : Int) : Utf8.encode n = Utf8.encode (fixN n : Nat) := by
  unfold fixN
  cases hv : Utf8.valid n with
  | true => rw [if_pos rfl, show ((n.toNat : Nat) : Int) = n from by have := (valid_iff n).1 hv; omega]
  | false =>
    rw [if_neg (by decide)]
    have h2 : Utf8.valid ((65533 : Nat) : Int) = true := val_ok 65533 (by omega)
    simp only [Utf8.encode, hv, h2, if_true, Int.toNat_natCast]
    rfl

theorem encL_fix (n : Int) : encL n = encL (fixN n : Nat) := by
  show bL (Utf8.encode n) = bL (Utf8.encode (fixN n : Nat))
  rw [enc_fix]

/-- a rune's own number stays -/
theorem fixN_nat (c : Nat) (h : c < 55296 ∨ (57344 ≤ c ∧ c ≤ 1114111)) : fixN (c : Int) = c := by
  unfold fixN; rw [if_pos (val_ok c h)]; omega

theorem rn_valid (s : ByteArray) (k : Nat) (hk : k < s.size) : rn s k < 55296 ∨ (57344 ≤ rn s k ∧ rn s k ≤ 1114111) := by
  cases ho : okR s k with
  | false => have := ok_false_iff ho; omega
  | true =>
    rcases ok_cases s k hk ho with ⟨h1, hr, hw⟩ | ⟨hc, hn, hg, hr, hw⟩ | ⟨hc, hn, hg, hg2, hr, hw⟩ | ⟨hc, hn, hg, hg2, hg3, hr, hw⟩
    · omega
    · have hb := hW2_range hc
      omega
    · have hb := hW3_range hc
      have hg' := g1_range (by omega) hg
      unfold g2 at hg2
      omega
    · have hb := hW4_range hc
      have hg' := g1_range (by omega) hg
      unfold g2 at hg2
      unfold g3 at hg3
      omega

theorem u8n (n : Nat) (h : n < 256) : (UInt8.ofNat n).toNat = n := by simp; omega

theorem hW_is1 {b : Nat} (h : b ≤ 127) : hW b = 1 := by unfold hW; rw [if_pos h]
theorem hW_is2 {b : Nat} (h : 194 ≤ b ∧ b ≤ 223) : hW b = 2 := by unfold hW; (repeat' split) <;> omega
theorem hW_is3 {b : Nat} (h : 224 ≤ b ∧ b ≤ 239) : hW b = 3 := by unfold hW; (repeat' split) <;> omega
theorem hW_is4 {b : Nat} (h : 240 ≤ b ∧ b ≤ 244) : hW b = 4 := by unfold hW; (repeat' split) <;> omega
theorem g1_mk {s : ByteArray} {k : Nat} (hb : 194 ≤ by_ s k ∧ by_ s k ≤ 244)
    (h : 128 ≤ by_ s (k + 1) ∧ by_ s (k + 1) ≤ 191 ∧ (by_ s k = 224 → 160 ≤ by_ s (k + 1)) ∧ (by_ s k = 237 → by_ s (k + 1) ≤ 159) ∧ (by_ s k = 240 → 144 ≤ by_ s (k + 1)) ∧ (by_ s k = 244 → by_ s (k + 1) ≤ 143)) : g1 s k := by
  unfold g1 hLo hHi
  (repeat' split) <;> omega

/-- WHAT IS READ WHERE A RUNE WAS LAID. -/
theorem dec_enc (p rest : List UInt8) (n : Int) : Utf8.decode (ofL (p ++ (encL n ++ rest))) p.length = (fixN n, (encL n).length) ∧ okR (ofL (p ++ (encL n ++ rest))) p.length = true := by
  rw [encL_fix]
  have hv := fixN_valid n
  generalize fixN n = c at hv
  have hz := ofL_size (p ++ (encL (c : Nat) ++ rest))
  rw [List.length_append, List.length_append] at hz
  have hb := by_at p (encL (c : Nat) ++ rest)
  generalize ofL (p ++ (encL (c : Nat) ++ rest)) = s at hz hb
  by_cases h1 : c < 128
  · rw [enc1 c h1] at hz hb ⊢
    have b0 := hb 0 (by simp)
    simp only [Nat.add_zero, List.cons_append, List.getElem_cons_zero] at b0
    rw [u8n c (by omega)] at b0
    have hd := dec_one s p.length (by omega)
    rw [b0] at hd
    exact ⟨hd, ok_one hd (by omega)⟩
  · by_cases h2 : c < 2048
    · rw [enc2 c h1 h2] at hz hb ⊢
      have b0 := hb 0 (by simp)
      have b1 := hb 1 (by simp)
      simp only [Nat.add_zero, List.cons_append, List.getElem_cons_zero, List.getElem_cons_succ] at b0 b1
      rw [u8n _ (by omega)] at b0 b1
      have hd := dec_two s p.length (by simp at hz; omega) (hW_is2 (by omega)) (by simp at hz; omega) (g1_mk (by omega) (by omega))
      rw [b0, b1] at hd
      have e : (192 + c / 64) % 32 * 64 + (128 + c % 64) % 64 = c := by omega
      rw [e] at hd
      exact ⟨hd, ok_wide hd (by decide)⟩
    · by_cases h3 : c < 65536
      · rw [enc3 c h2 h3 (by omega)] at hz hb ⊢
        have b0 := hb 0 (by simp)
        have b1 := hb 1 (by simp)
        have b2 := hb 2 (by simp)
        simp only [Nat.add_zero, List.cons_append, List.getElem_cons_zero, List.getElem_cons_succ] at b0 b1 b2
        rw [u8n _ (by omega)] at b0 b1 b2
        have hd := dec_three s p.length (by simp at hz; omega) (hW_is3 (by omega)) (by simp at hz; omega) (g1_mk (by omega) (by omega)) (by unfold g2; omega)
        rw [b0, b1, b2] at hd
        have e : (224 + c / 4096) % 16 * 4096 + (128 + c / 64 % 64) % 64 * 64 + (128 + c % 64) % 64 = c := by omega
        rw [e] at hd
        exact ⟨hd, ok_wide hd (by decide)⟩
      · rw [enc4 c h3 (by omega)] at hz hb ⊢
        have b0 := hb 0 (by simp)
        have b1 := hb 1 (by simp)
        have b2 := hb 2 (by simp)
        have b3 := hb 3 (by simp)
        simp only [Nat.add_zero, List.cons_append, List.getElem_cons_zero, List.getElem_cons_succ] at b0 b1 b2 b3
        rw [u8n _ (by omega)] at b0 b1 b2 b3
        have hd := dec_four s p.length (by simp at hz; omega) (hW_is4 (by omega)) (by simp at hz; omega) (g1_mk (by omega) (by omega)) (by unfold g2; omega) (by unfold g3; omega)
        rw [b0, b1, b2, b3] at hd
        have e : (240 + c / 262144) % 8 * 262144 + (128 + c / 4096 % 64) % 64 * 4096 + (128 + c / 64 % 64) % 64 * 64 + (128 + c % 64) % 64 = c := by omega
        rw [e] at hd
        exact ⟨hd, ok_wide hd (by decide)⟩

/-- the places of runes laid one behind the other -/
theorem encL_pos (n : Int) : 1 ≤ (encL n).length := by
  rw [encL_fix]
  have hv := fixN_valid n
  generalize fixN n = c at hv
  by_cases h1 : c < 128
  · rw [enc1 c h1]; simp
  · by_cases h2 : c < 2048
    · rw [enc2 c h1 h2]; simp
    · by_cases h3 : c < 65536
      · rw [enc3 c h2 h3 (by omega)]; simp
      · rw [enc4 c h3 (by omega)]; simp

theorem encL_le4 (n : Int) : (encL n).length ≤ 4 := by
  rw [encL_fix]
  have hv := fixN_valid n
  generalize fixN n = c at hv
  by_cases h1 : c < 128
  · rw [enc1 c h1]; simp
  · by_cases h2 : c < 2048
    · rw [enc2 c h1 h2]; simp
    · by_cases h3 : c < 65536
      · rw [enc3 c h2 h3 (by omega)]; simp
      · rw [enc4 c h3 (by omega)]; simp

end Go.Proofs.YtkndjbmlkfpfoaaGreatDoor

/-
  Plain facts: what a text in quotes is, and what a quoted text says.
-/
set_option linter.unusedSimpArgs false
set_option linter.unusedVariables false
namespace Go.Proofs.YtkndjbmlkfpfoaaGreatDoor
open Go.Lib

/-- a hexadecimal digit -/
def hxD (n : Nat) : UInt8 := UInt8.ofNat (if n < 10 then 48 + n else 87 + n)
/-- the hexadecimal digits of a number -/
def hxF : Nat → Nat → List UInt8
  | 0, _ => []
  | f + 1, n => if n = 0 then [] else hxF f (n / 16) ++ [hxD (n % 16)]
def hxL (n : Nat) : List UInt8 := hxF n n
/-- is a rune one that nobody sees? -/
def hidN (r : Nat) : Bool := decide ((128 ≤ r ∧ r ≤ 159) ∨ r = 173 ∨ (8203 ≤ r ∧ r ≤ 8207) ∨ (8232 ≤ r ∧ r ≤ 8239) ∨ (8288 ≤ r ∧ r ≤ 8303) ∨ (57344 ≤ r ∧ r ≤ 63743) ∨ (65024 ≤ r ∧ r ≤ 65039) ∨ r = 65279 ∨ 917504 ≤ r)
/-- an escape of two signs -/
def ltN (r : Nat) : Nat := if r = 34 then 34 else if r = 92 then 92 else if r = 10 then 110 else if r = 13 then 114 else if r = 9 then 116 else 0
/-- may it not stand as itself? -/
def rawB (s : ByteArray) (i : Nat) : Bool := decide (rn s i < 32) || decide (rn s i = 127) || !okR s i
def bxL (b : Nat) : List UInt8 := [92, 120, hxD (b / 16), hxD (b % 16)]
def uxL (r : Nat) : List UInt8 := 92 :: 117 :: 123 :: (hxL r ++ [125])
/-- what stands of the rune at a place -/
def qP (s : ByteArray) (i : Nat) : List UInt8 :=
  if ltN (rn s i) ≠ 0 then [92, UInt8.ofNat (ltN (rn s i))]
  else if rawB s i then bxL (by_ s i)
  else if hidN (rn s i) then uxL (rn s i)
  else encL (rn s i : Nat)
def qL (s : ByteArray) (l : List Nat) : List UInt8 := l.flatMap (qP s)
theorem qL_snoc (s : ByteArray) (l : List Nat) (i : Nat) : qL s (l ++ [i]) = qL s l ++ qP s i := by simp [qL]
/-- A TEXT IN QUOTES -/
def qT (s : ByteArray) : ByteArray := ofL (34 :: (qL s (allL s) ++ [34]))

/-- a hexadecimal digit's number; 16: it is none -/
def dgV (b : Nat) : Nat := if 48 ≤ b ∧ b ≤ 57 then b - 48 else if 97 ≤ b ∧ b ≤ 102 then b - 87 else 16
/-- the digits at a place: their number, and how many there are, at most so many -/
def hxR (s : ByteArray) (i : Nat) : Nat → Nat → Nat → Nat × Nat
  | 0, n, k => (n, k)
  | f + 1, n, k => if i + k < s.size ∧ dgV (by_ s (i + k)) < 16 then hxR s i f (16 * n + dgV (by_ s (i + k))) (k + 1) else (n, k)
def byteE (s : ByteArray) (i : Nat) : Option (List UInt8 × Nat) :=
  if (hxR s i 2 0 0).2 = 2 then some ([UInt8.ofNat (hxR s i 2 0 0).1], 4) else none
def runeE (s : ByteArray) (i : Nat) : Option (List UInt8 × Nat) :=
  let n := (hxR s i 6 0 0).1
  let k := (hxR s i 6 0 0).2
  if k = 0 ∨ (1 < k ∧ by_ s i = 48) then none
  else if i + k < s.size ∧ by_ s (i + k) = 125 ∧ Utf8.valid (n : Int) = true then some (encL (n : Int), k + 4) else none
/-- what the escape says that begins at a place -/
def escE (s : ByteArray) (i : Nat) : Option (List UInt8 × Nat) :=
  if i + 1 < s.size then
    if by_ s (i + 1) = 34 then some ([34], 2) else if by_ s (i + 1) = 92 then some ([92], 2)
    else if by_ s (i + 1) = 110 then some ([10], 2) else if by_ s (i + 1) = 114 then some ([13], 2) else if by_ s (i + 1) = 116 then some ([9], 2)
    else if by_ s (i + 1) = 120 then byteE s (i + 2)
    else if by_ s (i + 1) = 117 ∧ i + 2 < s.size ∧ by_ s (i + 2) = 123 then runeE s (i + 3)
    else none
  else none
/-- what a quoted text says behind its first quote -/
def rdF (s : ByteArray) : Nat → Nat → List UInt8 → List UInt8 × Nat × Bool
  | 0, i, acc => ([], s.size, false)
  | f + 1, i, acc =>
    if i < s.size then
      if by_ s i = 34 then (acc, i + 1, true)
      else if by_ s i = 92 then match escE s i with
        | none => ([], i, false)
        | some (x, n) => rdF s f (i + n) (acc ++ x)
      else if rawB s i then ([], i, false)
      else rdF s f (i + wd s i) (acc ++ encL (rn s i : Nat))
    else ([], s.size, false)
def rdE (s : ByteArray) (i : Nat) : List UInt8 × Nat × Bool := rdF s (s.size - i) i []
def uqOk (s : ByteArray) : Bool := decide (0 < s.size) && decide (by_ s 0 = 34) && (rdE s 1).2.2 && decide ((rdE s 1).2.1 = s.size)
def uqT (s : ByteArray) : ByteArray := if uqOk s then ofL (rdE s 1).1 else ofL []
def uqN (s : ByteArray) : Nat := if uqOk s then 0 else if 0 < s.size ∧ by_ s 0 = 34 then (rdE s 1).2.1 else 0
def uqE (s : ByteArray) : Nat := if uqOk s then 0 else 18

end Go.Proofs.YtkndjbmlkfpfoaaGreatDoor

/-
  What glyph.head and glyph.Decode answer, for every text and every place.
-/
namespace Go.Proofs.YtkndjbmlkfpfoaaGreatDoor
open Go.RowKit Go.Lib

theorem hide {p : Prop} (h : p) : Hid p := h
theorem unhide {p : Prop} (h : Hid p) : p := h

theorem ret3 {a a' b b' c c' : Int} {k l m : IntKind} (h : a = a') (h2 : b = b') (h3 : c = c') : Ending.returned (.tuple #[.int k a, .int l b, .int m c]) = .returned (.tuple #[.int k a', .int l b', .int m c']) := by rw [h, h2, h3]

set_option maxHeartbeats 400000 in
theorem head_any (b : Nat) (w : World) (hb : b < 256) :
    Calls Tryz.prog 130 #[.int .u8 b] w fun e w' => e = .returned (.tuple #[.int .i64 (hW b : Nat), .int .u8 (hLo b : Nat), .int .u8 (hHi b : Nat)]) ∧ w = w' := by
  have hc : b ≤ 127 ∨ (127 < b ∧ b ≤ 193) ∨ (193 < b ∧ b ≤ 223) ∨ b = 224 ∨ b = 237 ∨ (224 < b ∧ b < 237) ∨ (237 < b ∧ b ≤ 239) ∨ b = 240 ∨ (240 < b ∧ b ≤ 243) ∨ b = 244 ∨ 244 < b := by omega
  rcases hc with h | ⟨h, h'⟩ | ⟨h, h'⟩ | h | h | ⟨h, h'⟩ | ⟨h, h'⟩ | h | ⟨h, h'⟩ | h | h
  all_goals (try subst h)
  all_goals
    go_enter Tryz.func130, Tryz.ntmps130
    go_wp2
    go_ret3
    exact ⟨ret3 (by unfold hW; (repeat' split) <;> omega) (by unfold hLo; (repeat' split) <;> omega) (by unfold hHi; (repeat' split) <;> omega), rfl⟩

set_option maxHeartbeats 400000 in
theorem decode_out (s : ByteArray) (at_ : Int) (w : World) (hs : s.size ≤ maxLen) (h : at_ < 0 ∨ s.size ≤ at_) :
    Calls Tryz.prog 114 #[.string s, .int .i64 at_] w fun e w' => e = .returned (.tuple #[.int .i32 0, .int .i64 0, .bool false]) ∧ w = w' := by
  unfold maxLen at hs
  rcases h with h | h
  · go_enter Tryz.func114, Tryz.ntmps114
    go_wp2
    go_ret3
    exact ⟨rfl, rfl⟩
  · have h' : ¬ at_ < 0 := by omega
    go_enter Tryz.func114, Tryz.ntmps114
    go_wp2
    go_ret3
    exact ⟨rfl, rfl⟩

set_option maxHeartbeats 400000 in
theorem decode_one (s : ByteArray) (k : Nat) (w : World) (hs : s.size ≤ maxLen) (hk : k < s.size) (h1 : by_ s k ≤ 127) :
    Calls Tryz.prog 114 #[.string s, .int .i64 k] w fun e w' => e = .returned (.tuple #[.int .i32 (by_ s k : Nat), .int .i64 1, .bool true]) ∧ w = w' := by
  unfold maxLen at hs
  have hb := by_get s k hk
  have hl := by_lt s k
  have hw : hW (by_ s k) = 1 := by unfold hW; rw [if_pos h1]
  go_enter Tryz.func114, Tryz.ntmps114
  go_wp2_with (go_at_call 130; refine (head_any _ _ (by_lt s k)).mono ?_; rintro e w' ⟨rfl, rfl⟩; rw [hw])
  go_ret3
  exact ⟨rfl, rfl⟩

set_option maxHeartbeats 400000 in
theorem decode_bad (s : ByteArray) (k : Nat) (w : World) (hs : s.size ≤ maxLen) (hk : k < s.size) (h1 : hW (by_ s k) = 0 ∨ s.size - k < hW (by_ s k)) :
    Calls Tryz.prog 114 #[.string s, .int .i64 k] w fun e w' => e = .returned (.tuple #[.int .i32 65533, .int .i64 1, .bool false]) ∧ w = w' := by
  unfold maxLen at hs
  have hb := by_get s k hk
  have hl := by_lt s k
  have hl4 := hW_le (by_ s k)
  rcases h1 with h1 | h1
  · go_enter Tryz.func114, Tryz.ntmps114
    go_wp2_with (go_at_call 130; refine (head_any _ _ (by_lt s k)).mono ?_; rintro e w' ⟨rfl, rfl⟩; rw [h1])
    go_ret3
    exact ⟨rfl, rfl⟩
  · have h0 : ((hW (by_ s k) : Int) == 0) = false := by
      rw [beq_eq_false_iff_ne]; omega
    go_enter Tryz.func114, Tryz.ntmps114
    go_wp2_with (go_at_call 130; refine (head_any _ _ (by_lt s k)).mono ?_; rintro e w' ⟨rfl, rfl⟩)
    go_ret3
    exact ⟨rfl, rfl⟩

theorem ret_dec {s : ByteArray} {k : Nat} {a b : Int} {o : Bool} {r n : Nat} (h : Utf8.decode s k = (r, n)) (ha : a = r) (hb : b = n) (ho : okR s k = o) :
    Ending.returned (.tuple #[.int .i32 a, .int .i64 b, .bool o]) = .returned (.tuple #[.int .i32 (rn s k : Nat), .int .i64 (wd s k : Nat), .bool (okR s k)]) := by
  rw [ha, hb, ← ho, rn_of h, wd_of h]

end Go.Proofs.YtkndjbmlkfpfoaaGreatDoor

/-
  The two maps of package quote: which rune stands for a letter behind a backslash, and back.
-/
set_option linter.unusedSimpArgs false
set_option linter.unusedVariables false
namespace Go.Proofs.YtkndjbmlkfpfoaaGreatDoor
open Go.RowKit Go.Lib Go.Maps


theorem lawU8 : Keyed Tryz.prog 5 := int_keyed Tryz.underlying5
theorem lawI32 : Keyed Tryz.prog 21 := int_keyed Tryz.underlying21
theorem zeroI32 (w : World) : (zeroValue 21).run Tryz.prog w = .ok (.int .i32 0) w := by kernel_rfl
theorem zeroU8 (w : World) : (zeroValue 5).run Tryz.prog w = .ok (.int .u8 0) w := by kernel_rfl

/-- an entry of a map's literal -/
theorem wpList_insert_own {H : Type} {P : Program} (w : World) {ops : Array Oper} {rest : List Oper} {o : Oper} {a : Act} {Q : Exit → Act → World → Prop}
    (hg : o.guard = none) (m x v : Operand) (t : TypeId) (hop : o.op = Op.insert t m x v)
    (k e : TypeId) (K : Keyed P k) (ht : P.underlying t = some (.map k e)) (R : Value → Option (DataW H × List MemPlace)) (b n : Nat) (D : DataW H)
    (hm : a.eval m = .map (some b)) (hown : w.ownsMap P k R b n D) (hn : n < maxLen) (key val : Value) (kl : Lit) (hx : a.eval x = key) (hv : a.eval v = val) (hkey : keyOf P k key = some kl)
    (d : DataW H) (ps : List MemPlace) (hval : R val = some (d, ps))
    (hK : ∀ w', w'.ownsMap P k R b (n + 1) (D.put kl d) → w.grownBy w' (some b) → wpList P ops Q rest (a.put o.dst undef) w') :
    wpList P ops Q (o :: rest) a w := by
  refine wpList_plain hg fun K' hK' => ?_
  obtain ⟨w', hrun, r1, r2⟩ := hown.update K ht hn hkey hval
  unfold Oper.wp
  simp [execOp, hop, hm, hx, hv, hrun, Result.andThen]
  exact hK' _ _ (hK w' r1 r2)

def putE (D : DataW Unit) (x c : Int) : DataW Unit := D.put (.int .u8 x) (.lit (.int .i32 c))
def mapE : DataW Unit := putE (putE (putE (putE (putE (.map []) 34 34) 92 92) 110 10) 114 13) 116 9
theorem mapE_eq : mapE = .map [(.int .u8 34, .lit (.int .i32 34)), (.int .u8 92, .lit (.int .i32 92)), (.int .u8 110, .lit (.int .i32 10)), (.int .u8 114, .lit (.int .i32 13)), (.int .u8 116, .lit (.int .i32 9))] := by kernel_rfl

/-- which rune stands for a letter; 0: none -/
def ruN (b : Nat) : Nat := if b = 34 then 34 else if b = 92 then 92 else if b = 110 then 10 else if b = 114 then 13 else if b = 116 then 9 else 0

set_option maxRecDepth 100000 in
theorem escapes_in (w : World) :
    Calls Tryz.prog 104 #[] w fun e w' => e = .returned (.map (some w.heap.size)) ∧ w'.ownsMap Tryz.prog 5 (plainElem Tryz.prog 21) w.heap.size 5 mapE ∧ Below w.heap.size w w' := by
  have hmm := @run_makeMap Tryz.prog
  have o0 : (w.alloc (.map #[] 0)).ownsMap (H := Unit) Tryz.prog 5 (plainElem Tryz.prog 21) w.heap.size 0 (.map []) := World.ownsMap_made _ _ _ _
  obtain ⟨w1, e1, o1, g1⟩ := o0.update lawU8 Tryz.underlying174 (by unfold maxLen; omega) (keyOf_int_mk Tryz.underlying5 (a := 34) (by decide)) (plainElem_int Tryz.underlying21 (a := 34) (by decide))
  obtain ⟨w2, e2, o2, g2⟩ := o1.update lawU8 Tryz.underlying174 (by unfold maxLen; omega) (keyOf_int_mk Tryz.underlying5 (a := 92) (by decide)) (plainElem_int Tryz.underlying21 (a := 92) (by decide))
  obtain ⟨w3, e3, o3, g3⟩ := o2.update lawU8 Tryz.underlying174 (by unfold maxLen; omega) (keyOf_int_mk Tryz.underlying5 (a := 110) (by decide)) (plainElem_int Tryz.underlying21 (a := 10) (by decide))
  obtain ⟨w4, e4, o4, g4⟩ := o3.update lawU8 Tryz.underlying174 (by unfold maxLen; omega) (keyOf_int_mk Tryz.underlying5 (a := 114) (by decide)) (plainElem_int Tryz.underlying21 (a := 13) (by decide))
  obtain ⟨w5, e5, o5, g5⟩ := o4.update lawU8 Tryz.underlying174 (by unfold maxLen; omega) (keyOf_int_mk Tryz.underlying5 (a := 116) (by decide)) (plainElem_int Tryz.underlying21 (a := 9) (by decide))
  have O := hide o5
  have b0 : Below w.heap.size w (w.alloc (.map #[] 0)) := (Below.refl _ _).alloc (Nat.le_refl _) _
  have B := hide ((((((b0.grown g1 (by simp) (fun j hj => by cases hj; exact Nat.le_refl _)).grown g2 (Nat.le_trans (by simp) g1.size) (fun j hj => by cases hj; exact Nat.le_refl _)).grown g3 (Nat.le_trans (Nat.le_trans (by simp) g1.size) g2.size) (fun j hj => by cases hj; exact Nat.le_refl _)).grown g4 (Nat.le_trans (Nat.le_trans (Nat.le_trans (by simp) g1.size) g2.size) g3.size) (fun j hj => by cases hj; exact Nat.le_refl _)).grown g5 (Nat.le_trans (Nat.le_trans (Nat.le_trans (Nat.le_trans (by simp) g1.size) g2.size) g3.size) g4.size) (fun j hj => by cases hj; exact Nat.le_refl _)))
  clear o0 o1 o2 o3 o4 o5 g1 g2 g3 g4 g5 b0
  go_enter Tryz.func104, Tryz.ntmps104
  go_wp2
  go_ret
  exact ⟨rfl, unhide O, unhide B⟩

theorem lit_u8 {a b : Int} (h : (Lit.int .u8 a) = (Lit.int .u8 b)) : a = b := by cases h; rfl
theorem lit_i32 {a b : Int} (h : (Lit.int .i32 a) = (Lit.int .i32 b)) : a = b := by cases h; rfl
theorem keyLit (k : IntKind) (a : Int) : WideAt.IsKeyLit (.int k a) := trivial

theorem mapE_has (b : Nat) : Maps.has mapE (.int .u8 (b : Int)) = decide (ruN b ≠ 0) := by
  rw [mapE_eq]
  simp only [Maps.has, List.any_cons, List.any_nil, Lit.sameKey, true_and]
  unfold ruN
  (repeat' split) <;> simp <;> omega
theorem mapE_at (b : Nat) (h : ruN b ≠ 0) (zd : DataW Unit) : mapE.atKey (.int .u8 (b : Int)) zd = .lit (.int .i32 (ruN b : Nat)) := by
  have hb : b = 34 ∨ b = 92 ∨ b = 110 ∨ b = 114 ∨ b = 116 := by
    unfold ruN at h; (repeat' split at h) <;> omega
  rw [mapE_eq]
  rcases hb with rfl | rfl | rfl | rfl | rfl <;> rfl
theorem mapE_key (x : Int) (h : Maps.has mapE (.int .u8 x) = true) : x = 34 ∨ x = 92 ∨ x = 110 ∨ x = 114 ∨ x = 116 := by
  rw [mapE_eq] at h
  simp only [Maps.has, List.any_cons, List.any_nil, Lit.sameKey, true_and] at h
  simp at h
  omega
theorem not_has_at {D : DataW Unit} {k : Lit} (h : Maps.has D k = false) (zd : DataW Unit) : D.atKey k zd = zd := by
  cases D <;> try rfl
  rename_i es
  have : es.find? (fun p => p.1.sameKey k) = none := by
    rw [List.find?_eq_none]
    intro p hp e
    have : es.any (fun p => p.1.sameKey k) = true := List.any_eq_true.2 ⟨p, hp, e⟩
    rw [show es.any (fun p => p.1.sameKey k) = false from h] at this
    cases this
  unfold DataW.atKey
  simp only [this]

def Let (D : DataW Unit) (left : Lit → Bool) : Prop := ∀ r : Nat, Maps.has D (.int .i32 (r : Int)) = (decide (ltN r ≠ 0) && !left (.int .u8 (ltN r : Nat))) ∧ (Maps.has D (.int .i32 (r : Int)) = true → ∀ zd, D.atKey (.int .i32 (r : Int)) zd = .lit (.int .u8 (ltN r : Nat)))

theorem let_start : Let (.map []) (Maps.has mapE) := fun r => by
  refine ⟨?_, fun h => by cases h⟩
  rw [mapE_has]
  unfold ruN ltN
  show false = _
  (repeat' split) <;> simp_all <;> omega

theorem let_step {D : DataW Unit} {left : Lit → Bool} (h : Let D left) (hm : IsMap D) {x c : Int} (hat : ∀ zd, mapE.atKey (.int .u8 x) zd = .lit (.int .i32 c)) :
    Let (D.put (.int .i32 c) (.lit (.int .u8 x))) (fun z => left z && !z.sameKey (.int .u8 x)) := by
  have hx : x = 34 ∨ x = 92 ∨ x = 110 ∨ x = 114 ∨ x = 116 := by
    cases hh : Maps.has mapE (.int .u8 x) with
    | true => exact mapE_key x hh
    | false =>
      have h1 := hat (.lit (.bool true))
      rw [not_has_at hh] at h1
      cases h1
  obtain ⟨c', x', ec, ex, hl⟩ : ∃ c' x' : Nat, c = (c' : Int) ∧ x = (x' : Int) ∧ ltN c' = x' ∧ x' ≠ 0 ∧ ∀ r, ltN r = x' → r = c' := by
    have inj : ∀ (r y : Nat), ltN r = y → y ≠ 0 → ruN y = r := by
      intro r y h hy
      unfold ltN at h
      unfold ruN
      (repeat' split at h) <;> (repeat' split) <;> omega
    rcases hx with rfl | rfl | rfl | rfl | rfl
    · refine ⟨34, 34, ?_, rfl, rfl, by decide, fun r hr => (inj r _ hr (by decide)).symm⟩
      have h1 := (mapE_at 34 (by decide) (.map [])).symm.trans (hat (.map [])); cases h1; rfl
    · refine ⟨92, 92, ?_, rfl, rfl, by decide, fun r hr => (inj r _ hr (by decide)).symm⟩
      have h1 := (mapE_at 92 (by decide) (.map [])).symm.trans (hat (.map [])); cases h1; rfl
    · refine ⟨10, 110, ?_, rfl, rfl, by decide, fun r hr => (inj r _ hr (by decide)).symm⟩
      have h1 := (mapE_at 110 (by decide) (.map [])).symm.trans (hat (.map [])); cases h1; rfl
    · refine ⟨13, 114, ?_, rfl, rfl, by decide, fun r hr => (inj r _ hr (by decide)).symm⟩
      have h1 := (mapE_at 114 (by decide) (.map [])).symm.trans (hat (.map [])); cases h1; rfl
    · refine ⟨9, 116, ?_, rfl, rfl, by decide, fun r hr => (inj r _ hr (by decide)).symm⟩
      have h1 := (mapE_at 116 (by decide) (.map [])).symm.trans (hat (.map [])); cases h1; rfl
  subst ec ex
  obtain ⟨hl, hx0, hun⟩ := hl
  intro r
  by_cases hr : r = c'
  · subst hr
    refine ⟨?_, fun _ zd => ?_⟩
    · rw [has_put_same hm (keyLit _ _), hl]
      simp [hx0, Lit.sameKey]
    · rw [atKey_put_same hm (keyLit _ _), hl]
  · have hne : (Lit.int .i32 (r : Int)) ≠ .int .i32 (c' : Int) := fun e => hr (by have := lit_i32 e; omega)
    rw [has_put_other hne]
    refine ⟨?_, fun hh zd => ?_⟩
    · rw [(h r).1]
      have : ((ltN r : Nat) : Int) ≠ (x' : Int) := fun e => hr (hun r (by omega))
      simp [Lit.sameKey, this]
    · rw [atKey_put_other hne]; exact (h r).2 hh zd

/-- a map that says which letter stands for a rune -/
def Knows (D : DataW Unit) : Prop := ∀ r : Nat, Maps.has D (.int .i32 (r : Int)) = decide (ltN r ≠ 0) ∧ (ltN r ≠ 0 → ∀ zd, D.atKey (.int .i32 (r : Int)) zd = .lit (.int .u8 (ltN r : Nat)))
theorem let_end {D : DataW Unit} {left : Lit → Bool} (h : Let D left) (hl : ∀ k, left k = false) : Knows D := fun r => by
  have h1 := (h r).1
  rw [hl] at h1
  simp only [Bool.not_false, Bool.and_true] at h1
  exact ⟨h1, fun hr => (h r).2 (by rw [h1]; simpa using hr)⟩

theorem ownsMap_below {H : Type} {P : Program} {k : TypeId} {R : Value → Option (DataW H × List MemPlace)} {w w' : World} {B b n : Nat} {D : DataW H} (h : w.ownsMap P k R b n D) (hB : Below B w w') (hlt : b < B) : w'.ownsMap P k R b n D := by
  obtain ⟨es, clock, hb, r⟩ := h
  exact ⟨es, clock, (hB.block b hlt).trans hb, r⟩

set_option maxRecDepth 100000 in
set_option maxHeartbeats 1000000 in
theorem letters_in (w : World) :
    Calls Tryz.prog 94 #[] w fun e w' => e = .returned (.map (some w.heap.size)) ∧ (∃ D, w'.ownsMap Tryz.prog 21 (plainElem Tryz.prog 5) w.heap.size 5 D ∧ Knows D) ∧ Below w.heap.size w w' := by
  have hmm := @run_makeMap Tryz.prog
  have e1 : (w.alloc (.map #[] 0)).heap.size = w.heap.size + 1 := by simp
  have hesc := fun W => hide (escapes_in W)
  go_enter Tryz.func94, Tryz.ntmps94
  go_wp2_with (first
    | (go_at_call 104; refine (unhide (hesc _)).mono ?_; rintro e w' ⟨rfl, hown, hbel⟩; rw [e1] at hown hbel ⊢)
    | (at_range; refine wpList_range_own _ rfl _ 174 rfl 5 21 lawU8 Tryz.underlying174 _ (w.heap.size + 1) 5 _ rfl hown ?_; intro w0 hrg0 hg0 hs0)
    | go_in)
  go_frame
  have hm0 := (ownsMap_below (World.ownsMap_made (H := Unit) w Tryz.prog 21 (plainElem Tryz.prog 5)) hbel (by omega)).kept hg0 (by simp)
  have hbw : Below w.heap.size w w0 := (((Below.refl _ _).alloc (Nat.le_refl _) _).trans (hbel.mono (Nat.le_succ _))).grown hg0 (by have := hbel.size; omega) (fun j hj => by cases hj)
  have hgt := hbel.size
  rw [e1] at hgt
  generalize hr : w'.heap.size = rB at *
  clear hr hesc hown hbel hg0 hmm e1
  go_loopw [7] (fun _ wr => ∃ (left : Lit → Bool) (cnt : Nat) (D : DataW Unit), wr.ranges Tryz.prog 5 (plainElem Tryz.prog 21) (w.heap.size + 1) rB 5 mapE left cnt ∧ cnt ≤ 5 ∧
      wr.ownsMap Tryz.prog 21 (plainElem Tryz.prog 5) w.heap.size (5 - cnt) D ∧ Let D left ∧ Below w.heap.size w wr) (fun _ wr => wr.rangeLeft (w.heap.size + 1) rB)
  case atStart => exact ⟨_, _, .map [], hrg0, by rw [mapE_eq]; exact Nat.le_refl _, hm0.mono (Nat.zero_le _), let_start, hbw⟩
  case round =>
    obtain ⟨left, cnt, D, hrg, hcs, hout, hA, hnx⟩ := hrel
    go_wp2_with (first
      | (at_next; refine wpList_next_ranges_ii _ rfl _ rfl 5 21 .u8 .i32 lawU8 Tryz.underlying5 Tryz.underlying21 (w.heap.size + 1) rB 5 _ _ _ rfl hrg ?_ ?_)
      | go_in)
    · intro hc0 hl0
      go_wp2
      go_ret
      exact ⟨rfl, ⟨D, hout.mono (by omega), let_end hA hl0⟩, hnx⟩
    · intro x c w1 cnt1 hwx hwc hlx hat hrg1 hlt hg1 hs1 hen
      have hout1 := hout.kept hg1 (fun e => by have := Option.some.inj e; omega)
      go_wp2_with (first
        | (at_mapUpdate; refine wpList_mapUpdate_own _ rfl _ _ _ 166 rfl 21 5 lawI32 Tryz.underlying166 _ w.heap.size _ _ rfl hout1 (by unfold maxLen; omega) _ _ _ rfl rfl (keyOf_int_mk Tryz.underlying21 hwc) _ [] (plainElem_int Tryz.underlying5 hwx) ?_; intro w2 hout2 hg2; go_frame)
        | go_in)
      have hrg2 := hrg1.kept hg2 (fun e => by have := Option.some.inj e; omega) (fun e => by have := Option.some.inj e; omega)
      go_roundw
      case rel =>
        exact ⟨_, cnt1, _, hrg2, by omega, hout2.mono (by omega), let_step hA hout.isMap hat,
          (hnx.grown hg1 hnx.size (fun j hj => by cases hj; omega)).grown hg2 (by have := hnx.size; omega) (fun j hj => by cases hj; exact Nat.le_refl _)⟩
      case measure => rw [hrg2.left_eq, hrg.left_eq]; exact hlt

end Go.Proofs.YtkndjbmlkfpfoaaGreatDoor

/-
  glyph.Decode at a first byte of 2 bytes.
-/
namespace Go.Proofs.YtkndjbmlkfpfoaaGreatDoor
open Go.RowKit Go.Lib

set_option maxHeartbeats 1000000 in
theorem decode_two (s : ByteArray) (k : Nat) (w : World) (hs : s.size ≤ maxLen) (hk : k < s.size) (hW2 : hW (by_ s k) = 2) (hn : k + 2 ≤ s.size) :
    Calls Tryz.prog 114 #[.string s, .int .i64 k] w fun e w' => e = .returned (.tuple #[.int .i32 (rn s k : Nat), .int .i64 (wd s k : Nat), .bool (okR s k)]) ∧ w = w' := by
  unfold maxLen at hs
  have hb := by_get s k hk
  have hl := by_lt s k
  have hb1 := by_get s (k + 1) (by omega)
  have hl1 := by_lt s (k + 1)
  go_enter Tryz.func114, Tryz.ntmps114
  go_wp2_with (go_at_call 130; refine (head_any _ _ (by_lt s k)).mono ?_; rintro e w' ⟨rfl, rfl⟩; rw [hW2])
  go_loop [9, 10, 11, 12] (fun lo hi r i => (i = .int .i64 ((k : Int) + 1) ∧ lo = .int .u8 (hLo (by_ s k) : Nat) ∧ hi = .int .u8 (hHi (by_ s k) : Nat) ∧ r = .int .i32 ((by_ s k : Int) % 32)) ∨ (g1 s k ∧ i = .int .i64 ((k : Int) + 2) ∧ r = .int .i32 ((by_ s k : Int) % 32 * 64 + (by_ s (k + 1) : Int) % 64))) (fun _ _ _ i => k + 2 - (intOf i).toNat)
  case atStart => exact .inl ⟨rfl, rfl, rfl, rfl⟩
  case round =>
    rcases hrel with ⟨rfl, rfl, rfl, rfl⟩ | ⟨G1, rfl, rfl⟩
    · by_cases hg : hLo (by_ s k) ≤ by_ s (k + 1) ∧ by_ s (k + 1) ≤ hHi (by_ s k)
      · obtain ⟨hg1, hg2⟩ := hg
        go_wp2
        go_round
        case rel => exact .inr (⟨⟨hg1, hg2⟩, by go_num, rfl⟩)
        case measure => simp [intOf]; omega
      · have hd := dec_no1 s k hk (by omega) hg
        have Hd := hide hd
        clear hd
        by_cases hg1 : hLo (by_ s k) ≤ by_ s (k + 1)
        all_goals
          go_wp2
          go_ret3
          exact ⟨ret_dec (unhide Hd) rfl rfl (ok_bad (unhide Hd)), rfl⟩
    · have hd := dec_two s k hk hW2 hn G1
      have Hd := hide hd
      clear hd
      go_wp2
      go_ret3
      exact ⟨ret_dec (unhide Hd) (by omega) rfl (ok_wide (unhide Hd) (by decide)), rfl⟩

end Go.Proofs.YtkndjbmlkfpfoaaGreatDoor

/-
  glyph.Decode at a first byte of 3 bytes.
-/
namespace Go.Proofs.YtkndjbmlkfpfoaaGreatDoor
open Go.RowKit Go.Lib

set_option maxHeartbeats 1000000 in
theorem decode_three (s : ByteArray) (k : Nat) (w : World) (hs : s.size ≤ maxLen) (hk : k < s.size) (hW2 : hW (by_ s k) = 3) (hn : k + 3 ≤ s.size) :
    Calls Tryz.prog 114 #[.string s, .int .i64 k] w fun e w' => e = .returned (.tuple #[.int .i32 (rn s k : Nat), .int .i64 (wd s k : Nat), .bool (okR s k)]) ∧ w = w' := by
  unfold maxLen at hs
  have hb := by_get s k hk
  have hl := by_lt s k
  have hb1 := by_get s (k + 1) (by omega)
  have hl1 := by_lt s (k + 1)
  have hb2 := by_get s (k + 2) (by omega)
  have hl2 := by_lt s (k + 2)
  go_enter Tryz.func114, Tryz.ntmps114
  go_wp2_with (go_at_call 130; refine (head_any _ _ (by_lt s k)).mono ?_; rintro e w' ⟨rfl, rfl⟩; rw [hW2])
  go_loop [9, 10, 11, 12] (fun lo hi r i => (i = .int .i64 ((k : Int) + 1) ∧ lo = .int .u8 (hLo (by_ s k) : Nat) ∧ hi = .int .u8 (hHi (by_ s k) : Nat) ∧ r = .int .i32 ((by_ s k : Int) % 16)) ∨ (g1 s k ∧ i = .int .i64 ((k : Int) + 2) ∧ lo = .int .u8 128 ∧ hi = .int .u8 191 ∧ r = .int .i32 ((by_ s k : Int) % 16 * 64 + (by_ s (k + 1) : Int) % 64)) ∨ (g1 s k ∧ g2 s k ∧ i = .int .i64 ((k : Int) + 3) ∧ r = .int .i32 (((by_ s k : Int) % 16 * 64 + (by_ s (k + 1) : Int) % 64) * 64 + (by_ s (k + 2) : Int) % 64))) (fun _ _ _ i => k + 3 - (intOf i).toNat)
  case atStart => exact .inl ⟨rfl, rfl, rfl, rfl⟩
  case round =>
    rcases hrel with ⟨rfl, rfl, rfl, rfl⟩ | ⟨G1, rfl, rfl, rfl, rfl⟩ | ⟨G1, G2, rfl, rfl⟩
    · by_cases hg : hLo (by_ s k) ≤ by_ s (k + 1) ∧ by_ s (k + 1) ≤ hHi (by_ s k)
      · obtain ⟨hg1, hg2⟩ := hg
        go_wp2
        go_round
        case rel => exact .inr (.inl ⟨⟨hg1, hg2⟩, by go_num, rfl, rfl, rfl⟩)
        case measure => simp [intOf]; omega
      · have hd := dec_no1 s k hk (by omega) hg
        have Hd := hide hd
        clear hd
        by_cases hg1 : hLo (by_ s k) ≤ by_ s (k + 1)
        all_goals
          go_wp2
          go_ret3
          exact ⟨ret_dec (unhide Hd) rfl rfl (ok_bad (unhide Hd)), rfl⟩
    · by_cases hg : 128 ≤ by_ s (k + 2) ∧ by_ s (k + 2) ≤ 191
      · obtain ⟨hg1, hg2⟩ := hg
        go_wp2
        go_round
        case rel => exact .inr (.inr (⟨G1, ⟨hg1, hg2⟩, by go_num, rfl⟩))
        case measure => simp [intOf]; omega
      · have hd := dec_no2 s k hk (by omega) hg
        have Hd := hide hd
        clear hd
        by_cases hg1 : 128 ≤ by_ s (k + 2)
        all_goals
          go_wp2
          go_ret3
          exact ⟨ret_dec (unhide Hd) rfl rfl (ok_bad (unhide Hd)), rfl⟩
    · have hd := dec_three s k hk hW2 hn G1 G2
      have Hd := hide hd
      clear hd
      go_wp2
      go_ret3
      exact ⟨ret_dec (unhide Hd) (by omega) rfl (ok_wide (unhide Hd) (by decide)), rfl⟩

end Go.Proofs.YtkndjbmlkfpfoaaGreatDoor

/-
  glyph.Decode at a first byte of 4 bytes.
-/
namespace Go.Proofs.YtkndjbmlkfpfoaaGreatDoor
open Go.RowKit Go.Lib

set_option maxHeartbeats 1000000 in
theorem decode_four (s : ByteArray) (k : Nat) (w : World) (hs : s.size ≤ maxLen) (hk : k < s.size) (hW2 : hW (by_ s k) = 4) (hn : k + 4 ≤ s.size) :
    Calls Tryz.prog 114 #[.string s, .int .i64 k] w fun e w' => e = .returned (.tuple #[.int .i32 (rn s k : Nat), .int .i64 (wd s k : Nat), .bool (okR s k)]) ∧ w = w' := by
  unfold maxLen at hs
  have hb := by_get s k hk
  have hl := by_lt s k
  have hb1 := by_get s (k + 1) (by omega)
  have hl1 := by_lt s (k + 1)
  have hb2 := by_get s (k + 2) (by omega)
  have hl2 := by_lt s (k + 2)
  have hb3 := by_get s (k + 3) (by omega)
  have hl3 := by_lt s (k + 3)
  go_enter Tryz.func114, Tryz.ntmps114
  go_wp2_with (go_at_call 130; refine (head_any _ _ (by_lt s k)).mono ?_; rintro e w' ⟨rfl, rfl⟩; rw [hW2])
  go_loop [9, 10, 11, 12] (fun lo hi r i => (i = .int .i64 ((k : Int) + 1) ∧ lo = .int .u8 (hLo (by_ s k) : Nat) ∧ hi = .int .u8 (hHi (by_ s k) : Nat) ∧ r = .int .i32 ((by_ s k : Int) % 8)) ∨ (g1 s k ∧ i = .int .i64 ((k : Int) + 2) ∧ lo = .int .u8 128 ∧ hi = .int .u8 191 ∧ r = .int .i32 ((by_ s k : Int) % 8 * 64 + (by_ s (k + 1) : Int) % 64)) ∨ (g1 s k ∧ g2 s k ∧ i = .int .i64 ((k : Int) + 3) ∧ lo = .int .u8 128 ∧ hi = .int .u8 191 ∧ r = .int .i32 (((by_ s k : Int) % 8 * 64 + (by_ s (k + 1) : Int) % 64) * 64 + (by_ s (k + 2) : Int) % 64)) ∨ (g1 s k ∧ g2 s k ∧ g3 s k ∧ i = .int .i64 ((k : Int) + 4) ∧ r = .int .i32 ((((by_ s k : Int) % 8 * 64 + (by_ s (k + 1) : Int) % 64) * 64 + (by_ s (k + 2) : Int) % 64) * 64 + (by_ s (k + 3) : Int) % 64))) (fun _ _ _ i => k + 4 - (intOf i).toNat)
  case atStart => exact .inl ⟨rfl, rfl, rfl, rfl⟩
  case round =>
    rcases hrel with ⟨rfl, rfl, rfl, rfl⟩ | ⟨G1, rfl, rfl, rfl, rfl⟩ | ⟨G1, G2, rfl, rfl, rfl, rfl⟩ | ⟨G1, G2, G3, rfl, rfl⟩
    · by_cases hg : hLo (by_ s k) ≤ by_ s (k + 1) ∧ by_ s (k + 1) ≤ hHi (by_ s k)
      · obtain ⟨hg1, hg2⟩ := hg
        go_wp2
        go_round
        case rel => exact .inr (.inl ⟨⟨hg1, hg2⟩, by go_num, rfl, rfl, rfl⟩)
        case measure => simp [intOf]; omega
      · have hd := dec_no1 s k hk (by omega) hg
        have Hd := hide hd
        clear hd
        by_cases hg1 : hLo (by_ s k) ≤ by_ s (k + 1)
        all_goals
          go_wp2
          go_ret3
          exact ⟨ret_dec (unhide Hd) rfl rfl (ok_bad (unhide Hd)), rfl⟩
    · by_cases hg : 128 ≤ by_ s (k + 2) ∧ by_ s (k + 2) ≤ 191
      · obtain ⟨hg1, hg2⟩ := hg
        go_wp2
        go_round
        case rel => exact .inr (.inr (.inl ⟨G1, ⟨hg1, hg2⟩, by go_num, rfl, rfl, rfl⟩))
        case measure => simp [intOf]; omega
      · have hd := dec_no2 s k hk (by omega) hg
        have Hd := hide hd
        clear hd
        by_cases hg1 : 128 ≤ by_ s (k + 2)
        all_goals
          go_wp2
          go_ret3
          exact ⟨ret_dec (unhide Hd) rfl rfl (ok_bad (unhide Hd)), rfl⟩
    · by_cases hg : 128 ≤ by_ s (k + 3) ∧ by_ s (k + 3) ≤ 191
      · obtain ⟨hg1, hg2⟩ := hg
        go_wp2
        go_round
        case rel => exact .inr (.inr (.inr (⟨G1, G2, ⟨hg1, hg2⟩, by go_num, rfl⟩)))
        case measure => simp [intOf]; omega
      · have hd := dec_no3 s k hk (by omega) hg
        have Hd := hide hd
        clear hd
        by_cases hg1 : 128 ≤ by_ s (k + 3)
        all_goals
          go_wp2
          go_ret3
          exact ⟨ret_dec (unhide Hd) rfl rfl (ok_bad (unhide Hd)), rfl⟩
    · have hd := dec_four s k hk hW2 hn G1 G2 G3
      have Hd := hide hd
      clear hd
      go_wp2
      go_ret3
      exact ⟨ret_dec (unhide Hd) (by omega) rfl (ok_wide (unhide Hd) (by decide)), rfl⟩

end Go.Proofs.YtkndjbmlkfpfoaaGreatDoor
