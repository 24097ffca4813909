/-
  Plain facts: a rune encoded is the bytes that it was read from; a text that is good all through is its runes encoded.
-/
import Derived.Test.YtlbgfcbhpmhhpabZRun
set_option linter.unusedSimpArgs false
set_option linter.unusedVariables false
namespace Go.Proofs.Ytlbgfcbhpmhhpab
open Go.RowKit Go.Lib

/-- the bytes of a rune -/
def bL (b : ByteArray) : List UInt8 := b.data.toList
def encL (r : Int) : List UInt8 := bL (Utf8.encode r)
theorem encL_of {r : Int} {x : List UInt8} (h : Utf8.encode r = ⟨x.toArray⟩) : encL r = x := by
  show bL (Utf8.encode r) = x
  rw [h]; rfl

theorem by_ofNat (s : ByteArray) (i : Nat) : UInt8.ofNat (by_ s i) = s.get! i := by unfold by_; exact UInt8.ofNat_toNat
theorem ofNat_by {s : ByteArray} {i n : Nat} (h : n = by_ s i) : UInt8.ofNat n = s.get! i := by rw [h]; exact by_ofNat s i

/-- so many bytes of a text, from a place on -/
def subL (s : ByteArray) (i n : Nat) : List UInt8 := (s.data.toList.drop i).take n

theorem get_list (s : ByteArray) (i : Nat) (h : i < s.size) : s.data.toList[i]'(by simpa using h) = s.get! i := by
  simp [ByteArray.get!, getElem!_pos, h]

theorem drop_step (s : ByteArray) (i : Nat) (h : i < s.size) : s.data.toList.drop i = s.get! i :: s.data.toList.drop (i + 1) := by
  rw [List.drop_eq_getElem_cons (by simpa using h), get_list s i h]

theorem subL_1 (s : ByteArray) (i : Nat) (h : i + 1 ≤ s.size) : subL s i 1 = [s.get! i] := by
  unfold subL; rw [drop_step s i (by omega)]; simp
theorem subL_2 (s : ByteArray) (i : Nat) (h : i + 2 ≤ s.size) : subL s i 2 = [s.get! i, s.get! (i + 1)] := by
  unfold subL; rw [drop_step s i (by omega), drop_step s (i + 1) (by omega)]; simp
theorem subL_3 (s : ByteArray) (i : Nat) (h : i + 3 ≤ s.size) : subL s i 3 = [s.get! i, s.get! (i + 1), s.get! (i + 2)] := by
  unfold subL; rw [drop_step s i (by omega), drop_step s (i + 1) (by omega), drop_step s (i + 1 + 1) (by omega)]; simp
theorem subL_4 (s : ByteArray) (i : Nat) (h : i + 4 ≤ s.size) : subL s i 4 = [s.get! i, s.get! (i + 1), s.get! (i + 2), s.get! (i + 3)] := by
  unfold subL; rw [drop_step s i (by omega), drop_step s (i + 1) (by omega), drop_step s (i + 1 + 1) (by omega), drop_step s (i + 1 + 1 + 1) (by omega)]; simp

theorem val_ok (c : Nat) (h : c < 55296 ∨ (57344 ≤ c ∧ c ≤ 1114111)) : Utf8.valid (c : Int) = true := by
  unfold Utf8.valid; simp only [Bool.or_eq_true, Bool.and_eq_true, decide_eq_true_eq]; omega
theorem utf1 (c : Nat) (h : c < 128) (hv : Utf8.valid (c : Int) = true) : Utf8.encode (c : Int) = ⟨#[UInt8.ofNat c]⟩ := by
  simp only [Utf8.encode, hv, if_true, Int.toNat_natCast, h]
theorem utf2 (c : Nat) (h : ¬ c < 128) (h2 : c < 2048) (hv : Utf8.valid (c : Int) = true) : Utf8.encode (c : Int) = ⟨#[UInt8.ofNat (192 + c / 64), UInt8.ofNat (128 + c % 64)]⟩ := by
  simp only [Utf8.encode, hv, if_true, Int.toNat_natCast, h, if_false, h2]
theorem utf3 (c : Nat) (h : ¬ c < 128) (h2 : ¬ c < 2048) (h3 : c < 65536) (hv : Utf8.valid (c : Int) = true) : Utf8.encode (c : Int) = ⟨#[UInt8.ofNat (224 + c / 4096), UInt8.ofNat (128 + c / 64 % 64), UInt8.ofNat (128 + c % 64)]⟩ := by
  simp only [Utf8.encode, hv, if_true, Int.toNat_natCast, h, if_false, h2, h3]
theorem utf4 (c : Nat) (h : ¬ c < 128) (h2 : ¬ c < 2048) (h3 : ¬ c < 65536) (hv : Utf8.valid (c : Int) = true) : Utf8.encode (c : Int) = ⟨#[UInt8.ofNat (240 + c / 262144), UInt8.ofNat (128 + c / 4096 % 64), UInt8.ofNat (128 + c / 64 % 64), UInt8.ofNat (128 + c % 64)]⟩ := by
  simp only [Utf8.encode, hv, if_true, Int.toNat_natCast, h, if_false, h2, h3]

theorem enc1 (c : Nat) (h : c < 128) : encL (c : Int) = [UInt8.ofNat c] := by
  exact encL_of (utf1 c h (val_ok c (by omega)))
theorem enc2 (c : Nat) (h : ¬ c < 128) (h2 : c < 2048) : encL (c : Int) = [UInt8.ofNat (192 + c / 64), UInt8.ofNat (128 + c % 64)] := by
  exact encL_of (utf2 c h h2 (val_ok c (by omega)))
theorem enc3 (c : Nat) (h : ¬ c < 2048) (h2 : c < 65536) (hv' : c < 55296 ∨ 57344 ≤ c) : encL (c : Int) = [UInt8.ofNat (224 + c / 4096), UInt8.ofNat (128 + c / 64 % 64), UInt8.ofNat (128 + c % 64)] := by
  exact encL_of (utf3 c (by omega) h h2 (val_ok c (by omega)))
theorem enc4 (c : Nat) (h : ¬ c < 65536) (h2 : c ≤ 1114111) : encL (c : Int) = [UInt8.ofNat (240 + c / 262144), UInt8.ofNat (128 + c / 4096 % 64), UInt8.ofNat (128 + c / 64 % 64), UInt8.ofNat (128 + c % 64)] := by
  exact encL_of (utf4 c (by omega) (by omega) h (val_ok c (by omega)))

/-- the four ways to be a rune -/
theorem ok_cases (s : ByteArray) (k : Nat) (hk : k < s.size) (ho : okR s k = true) :
    (by_ s k ≤ 127 ∧ rn s k = by_ s k ∧ wd s k = 1) ∨
    (hW (by_ s k) = 2 ∧ k + 2 ≤ s.size ∧ g1 s k ∧ rn s k = by_ s k % 32 * 64 + by_ s (k + 1) % 64 ∧ wd s k = 2) ∨
    (hW (by_ s k) = 3 ∧ k + 3 ≤ s.size ∧ g1 s k ∧ g2 s k ∧ rn s k = by_ s k % 16 * 4096 + by_ s (k + 1) % 64 * 64 + by_ s (k + 2) % 64 ∧ wd s k = 3) ∨
    (hW (by_ s k) = 4 ∧ k + 4 ≤ s.size ∧ g1 s k ∧ g2 s k ∧ g3 s k ∧ rn s k = by_ s k % 8 * 262144 + by_ s (k + 1) % 64 * 4096 + by_ s (k + 2) % 64 * 64 + by_ s (k + 3) % 64 ∧ wd s k = 4) := by
  have h4 := hW_le (by_ s k)
  have no : ∀ {P : Prop}, Utf8.decode s k = (65533, 1) → P := fun h => by rw [ok_bad h] at ho; cases ho
  by_cases h1 : by_ s k ≤ 127
  · have hd := dec_one s k h1
    exact .inl ⟨h1, rn_of hd, wd_of hd⟩
  · by_cases h0 : hW (by_ s k) = 0
    · exact no (dec_bad s k h0)
    · by_cases hn : s.size - k < hW (by_ s k)
      · exact no (dec_short s k hk hn)
      · have hne : hW (by_ s k) ≠ 1 := by unfold hW; (repeat' split) <;> omega
        by_cases hg1 : g1 s k
        · rcases (by omega : hW (by_ s k) = 2 ∨ hW (by_ s k) = 3 ∨ hW (by_ s k) = 4) with hc | hc | hc
          · have hd := dec_two s k hk hc (by omega) hg1
            exact .inr (.inl ⟨hc, by omega, hg1, rn_of hd, wd_of hd⟩)
          · by_cases hg2 : g2 s k
            · have hd := dec_three s k hk hc (by omega) hg1 hg2
              exact .inr (.inr (.inl ⟨hc, by omega, hg1, hg2, rn_of hd, wd_of hd⟩))
            · exact no (dec_no2 s k hk (by omega) hg2)
          · by_cases hg2 : g2 s k
            · by_cases hg3 : g3 s k
              · have hd := dec_four s k hk hc (by omega) hg1 hg2 hg3
                exact .inr (.inr (.inr ⟨hc, by omega, hg1, hg2, hg3, rn_of hd, wd_of hd⟩))
              · exact no (dec_no3 s k hk hc hg3)
            · exact no (dec_no2 s k hk (by omega) hg2)
        · exact no (dec_no1 s k hk (by omega) hg1)

theorem hW2_range {b : Nat} (h : hW b = 2) : 194 ≤ b ∧ b ≤ 223 := by unfold hW at h; (repeat' split at h) <;> omega
theorem hW3_range {b : Nat} (h : hW b = 3) : 224 ≤ b ∧ b ≤ 239 := by unfold hW at h; (repeat' split at h) <;> omega
theorem hW4_range {b : Nat} (h : hW b = 4) : 240 ≤ b ∧ b ≤ 244 := by unfold hW at h; (repeat' split at h) <;> omega
/-- the second byte's range, by the first one -/
theorem g1_range {s : ByteArray} {k : Nat} (hb : 194 ≤ by_ s k ∧ by_ s k ≤ 244) (h : g1 s k) :
    128 ≤ by_ s (k + 1) ∧ by_ s (k + 1) ≤ 191 ∧ (by_ s k = 224 → 160 ≤ by_ s (k + 1)) ∧ (by_ s k = 237 → by_ s (k + 1) ≤ 159) ∧ (by_ s k = 240 → 144 ≤ by_ s (k + 1)) ∧ (by_ s k = 244 → by_ s (k + 1) ≤ 143) := by
  unfold g1 hLo hHi at h
  (repeat' split at h) <;> omega

/-- A RUNE ENCODED IS THE BYTES THAT IT WAS READ FROM. -/
theorem enc_ok (s : ByteArray) (k : Nat) (hk : k < s.size) (ho : okR s k = true) : encL (rn s k : Nat) = subL s k (wd s k) := by
  rcases ok_cases s k hk ho with ⟨h1, hr, hw⟩ | ⟨hc, hn, hg, hr, hw⟩ | ⟨hc, hn, hg, hg2, hr, hw⟩ | ⟨hc, hn, hg, hg2, hg3, hr, hw⟩
  · rw [hr, hw, enc1 _ (by omega), subL_1 s k (by omega), by_ofNat]
  · have hb := hW2_range hc
    have hg' := g1_range (by omega) hg
    rw [hr, hw, enc2 _ (by omega) (by omega), subL_2 s k (by omega), ofNat_by (s := s) (i := k) (by omega), ofNat_by (s := s) (i := k + 1) (by omega)]
  · have hb := hW3_range hc
    have hg' := g1_range (by omega) hg
    unfold g2 at hg2
    rw [hr, hw, enc3 _ (by omega) (by omega) (by omega), subL_3 s k (by omega), ofNat_by (s := s) (i := k) (by omega), ofNat_by (s := s) (i := k + 1) (by omega), ofNat_by (s := s) (i := k + 2) (by omega)]
  · have hb := hW4_range hc
    have hg' := g1_range (by omega) hg
    unfold g2 at hg2
    unfold g3 at hg3
    rw [hr, hw, enc4 _ (by omega) (by omega), subL_4 s k (by omega), ofNat_by (s := s) (i := k) (by omega), ofNat_by (s := s) (i := k + 1) (by omega), ofNat_by (s := s) (i := k + 2) (by omega), ofNat_by (s := s) (i := k + 3) (by omega)]

theorem wd_le (s : ByteArray) (k : Nat) (hk : k < s.size) : k + wd s k ≤ s.size ∧ wd s k ≤ 4 := by
  cases ho : okR s k with
  | false => have := ok_false_iff ho; omega
  | true => rcases ok_cases s k hk ho with ⟨h1, hr, hw⟩ | ⟨hc, hn, hg, hr, hw⟩ | ⟨hc, hn, hg, hg2, hr, hw⟩ | ⟨hc, hn, hg, hg2, hg3, hr, hw⟩ <;> omega

/-- the bytes of the runes at places -/
def encP (s : ByteArray) (l : List Nat) : List UInt8 := l.flatMap fun i => encL (rn s i : Nat)

theorem encP_good (s : ByteArray) : ∀ (f i : Nat), s.size ≤ i + f → (∀ j ∈ posL s f i, okR s j = true) → encP s (posL s f i) = s.data.toList.drop i
  | 0, i, h, _ => by
    have : s.data.toList.length = s.size := by simp
    rw [List.drop_eq_nil_of_le (by omega)]; rfl
  | f + 1, i, h, hok => by
    by_cases hi : i < s.size
    · rw [posL_step s f i hi] at hok ⊢
      have hp := wd_pos s i hi
      have ih := encP_good s f (i + wd s i) (by omega) (fun j hj => hok j (List.mem_cons_of_mem _ hj))
      have hh := enc_ok s i hi (hok i (List.mem_cons_self ..))
      show encL (rn s i : Nat) ++ encP s (posL s f (i + wd s i)) = _
      rw [hh, ih, subL, ← List.drop_drop, List.take_append_drop]
    · have : s.data.toList.length = s.size := by simp
      rw [posL_end s _ i hi, List.drop_eq_nil_of_le (by omega)]; rfl

theorem runesBytes_list (ns : List Int) : (runesBytes ns).data.toList = ns.flatMap encL := by
  have go : ∀ (ns : List Int) (a : ByteArray), (ns.foldl (fun r n => r ++ Utf8.encode n) a).data.toList = a.data.toList ++ ns.flatMap encL := by
    intro ns
    induction ns with
    | nil => intro a; simp
    | cons n ns ih => intro a; rw [List.foldl_cons, ih]; simp [encL, bL]
  have := go ns ByteArray.empty
  simpa [runesBytes] using this

theorem runesBytes_eq (ns : List Int) : runesBytes ns = ⟨(ns.flatMap encL).toArray⟩ := by
  rw [← runesBytes_list]

theorem runeL_bytes (s : ByteArray) : (runeL s).flatMap encL = encP s (allL s) := by
  unfold runeL encP; rw [List.flatMap_map]

/-- A GOOD TEXT IS ITS RUNES ENCODED. -/
theorem mend_good (s : ByteArray) (h : ∀ i ∈ allL s, okR s i = true) : runesBytes (runeL s) = s := by
  rw [runesBytes_eq, runeL_bytes, allL, encP_good s s.size 0 (by omega) h]
  simp

end Go.Proofs.Ytlbgfcbhpmhhpab
