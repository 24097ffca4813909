/-
  Plain facts: a rune encoded is the bytes that it was read from; a text that is good all through is its runes encoded.
-/
import Derived.Test.YticjilkcobpcjaaDoorZXPure
set_option linter.unusedSimpArgs false
set_option linter.unusedVariables false
namespace Go.Proofs.YticjilkcobpcjaaDoor
open Go.Lib

/-- the bytes of a rune -/
def bL (b : ByteArray) : List UInt8 := b.data.toList
def encL (r : Int) : List UInt8 := bL (Utf8.encode r)
theorem encL_of {r : Int} {x : List UInt8} (h : Utf8.encode r = ⟨x.toArray⟩) : encL r = x := by
  show bL (Utf8.encode r) = x
  rw [h]; rfl

theorem by_ofNat (s : ByteArray) (i : Nat) : UInt8.ofNat (by_ s i) = s.get! i := by unfold by_; exact UInt8.ofNat_toNat
theorem ofNat_by {s : ByteArray} {i n : Nat} (h : n = by_ s i) : UInt8.ofNat n = s.get! i := by rw [h]; exact by_ofNat s i

/-- so many bytes of a text, from a place on -/
def subL (s : ByteArray) (i n : Nat) : List UInt8 := (s.data.toList.drop i).take n

theorem get_list (s : ByteArray) (i : Nat) (h : i < s.size) : s.data.toList[i]'(by simpa using h) = s.get! i := by
  simp [ByteArray.get!, getElem!_pos, h]

theorem drop_step (s : ByteArray) (i : Nat) (h : i < s.size) : s.data.toList.drop i = s.get! i :: s.data.toList.drop (i + 1) := by
  rw [List.drop_eq_getElem_cons (by simpa using h), get_list s i h]

theorem subL_1 (s : ByteArray) (i : Nat) (h : i + 1 ≤ s.size) : subL s i 1 = [s.get! i] := by
  unfold subL; rw [drop_step s i (by omega)]; simp
theorem subL_2 (s : ByteArray) (i : Nat) (h : i + 2 ≤ s.size) : subL s i 2 = [s.get! i, s.get! (i + 1)] := by
  unfold subL; rw [drop_step s i (by omega), drop_step s (i + 1) (by omega)]; simp
theorem subL_3 (s : ByteArray) (i : Nat) (h : i + 3 ≤ s.size) : subL s i 3 = [s.get! i, s.get! (i + 1), s.get! (i + 2)] := by
  unfold subL; rw [drop_step s i (by omega), drop_step s (i + 1) (by omega), drop_step s (i + 1 + 1) (by omega)]; simp
theorem subL_4 (s : ByteArray) (i : Nat) (h : i + 4 ≤ s.size) : subL s i 4 = [s.get! i, s.get! (i + 1), s.get! (i + 2), s.get! (i + 3)] := by
  unfold subL; rw [drop_step s i (by omega), drop_step s (i + 1) (by omega), drop_step s (i + 1 + 1) (by omega), drop_step s (i + 1 + 1 + 1) (by omega)]; simp

theorem val_ok (c : Nat) (h : c < 55296 ∨ (57344 ≤ c ∧ c ≤ 1114111)) : Utf8.valid (c : Int) = true := by
  unfold Utf8.valid; simp only [Bool.or_eq_true, Bool.and_eq_true, decide_eq_true_eq]; omega
theorem utf1 (c : Nat) (h : c < 128) (hv : Utf8.valid (c : Int) = true) : Utf8.encode (c : Int) = ⟨#[UInt8.ofNat c]⟩ := by
  simp only [Utf8.encode, hv, if_true, Int.toNat_natCast, h]
theorem utf2 (c : Nat) (h : ¬ c < 128) (h2 : c < 2048) (hv : Utf8.valid (c : Int) = true) : Utf8.encode (c : Int) = ⟨#[UInt8.ofNat (192 + c / 64), UInt8.ofNat (128 + c % 64)]⟩ := by
  simp only [Utf8.encode, hv, if_true, Int.toNat_natCast, h, if_false, h2]
theorem utf3 (c : Nat) (h : ¬ c < 128) (h2 : ¬ c < 2048) (h3 : c < 65536) (hv : Utf8.valid (c : Int) = true) : Utf8.encode (c : Int) = ⟨#[UInt8.ofNat (224 + c / 4096), UInt8.ofNat (128 + c / 64 % 64), UInt8.ofNat (128 + c % 64)]⟩ := by
  simp only [Utf8.encode, hv, if_true, Int.toNat_natCast, h, if_false, h2, h3]
theorem utf4 (c : Nat) (h : ¬ c < 128) (h2 : ¬ c < 2048) (h3 : ¬ c < 65536) (hv : Utf8.valid (c : Int) = true) : Utf8.encode (c : Int) = ⟨#[UInt8.ofNat (240 + c / 262144), UInt8.ofNat (128 + c / 4096 % 64), UInt8.ofNat (128 + c / 64 % 64), UInt8.ofNat (128 + c % 64)]⟩ := by
  simp only [Utf8.encode, hv, if_true, Int.toNat_natCast, h, if_false, h2, h3]

theorem enc1 (c : Nat) (h : c < 128) : encL (c : Int) = [UInt8.ofNat c] := by
  exact encL_of (utf1 c h (val_ok c (by omega)))
theorem enc2 (c : Nat) (h : ¬ c < 128) (h2 : c < 2048) : encL (c : Int) = [UInt8.ofNat (192 + c / 64), UInt8.ofNat (128 + c % 64)] := by
  exact encL_of (utf2 c h h2 (val_ok c (by omega)))
theorem enc3 (c : Nat) (h : ¬ c < 2048) (h2 : c < 65536) (hv' : c < 55296 ∨ 57344 ≤ c) : encL (c : Int) = [UInt8.ofNat (224 + c / 4096), UInt8.ofNat (128 + c / 64 % 64), UInt8.ofNat (128 + c % 64)] := by
  exact encL_of (utf3 c (by omega) h h2 (val_ok c (by omega)))
theorem enc4 (c : Nat) (h : ¬ c < 65536) (h2 : c ≤ 1114111) : encL (c : Int) = [UInt8.ofNat (240 + c / 262144), UInt8.ofNat (128 + c / 4096 % 64), UInt8.ofNat (128 + c / 64 % 64), UInt8.ofNat (128 + c % 64)] := by
  exact encL_of (utf4 c (by omega) (by omega) h (val_ok c (by omega)))

theorem enc_ok (s : ByteArray) (k : Nat) (hk : k < s.size) (ho : okR s k = true) : encL (rn s k : Nat) = subL s k (wd s k) := by
  rcases ok_cases s k hk ho with ⟨h1, hr, hw⟩ | ⟨hc, hn, hg, hr, hw⟩ | ⟨hc, hn, hg, hg2, hr, hw⟩ | ⟨hc, hn, hg, hg2, hg3, hr, hw⟩
  · rw [hr, hw, enc1 _ (by omega), subL_1 s k (by omega), by_ofNat]
  · have hb := hW2_range hc
    have hg' := g1_range (by omega) hg
    rw [hr, hw, enc2 _ (by omega) (by omega), subL_2 s k (by omega), ofNat_by (s := s) (i := k) (by omega), ofNat_by (s := s) (i := k + 1) (by omega)]
  · have hb := hW3_range hc
    have hg' := g1_range (by omega) hg
    unfold g2 at hg2
    rw [hr, hw, enc3 _ (by omega) (by omega) (by omega), subL_3 s k (by omega), ofNat_by (s := s) (i := k) (by omega), ofNat_by (s := s) (i := k + 1) (by omega), ofNat_by (s := s) (i := k + 2) (by omega)]
  · have hb := hW4_range hc
    have hg' := g1_range (by omega) hg
    unfold g2 at hg2
    unfold g3 at hg3
    rw [hr, hw, enc4 _ (by omega) (by omega), subL_4 s k (by omega), ofNat_by (s := s) (i := k) (by omega), ofNat_by (s := s) (i := k + 1) (by omega), ofNat_by (s := s) (i := k + 2) (by omega), ofNat_by (s := s) (i := k + 3) (by omega)]

/-- the bytes of the runes at places -/
def encP (s : ByteArray) (l : List Nat) : List UInt8 := l.flatMap fun i => encL (rn s i : Nat)

theorem encP_good (s : ByteArray) : ∀ (f i : Nat), s.size ≤ i + f → (∀ j ∈ posL s f i, okR s j = true) → encP s (posL s f i) = s.data.toList.drop i
  | 0, i, h, _ => by
    have : s.data.toList.length = s.size := by simp
    rw [List.drop_eq_nil_of_le (by omega)]; rfl
  | f + 1, i, h, hok => by
    by_cases hi : i < s.size
    · rw [posL_step s f i hi] at hok ⊢
      have hp := wd_pos s i hi
      have ih := encP_good s f (i + wd s i) (by omega) (fun j hj => hok j (List.mem_cons_of_mem _ hj))
      have hh := enc_ok s i hi (hok i (List.mem_cons_self ..))
      show encL (rn s i : Nat) ++ encP s (posL s f (i + wd s i)) = _
      rw [hh, ih, subL, ← List.drop_drop, List.take_append_drop]
    · have : s.data.toList.length = s.size := by simp
      rw [posL_end s _ i hi, List.drop_eq_nil_of_le (by omega)]; rfl

def ofL (l : List UInt8) : ByteArray := ⟨l.toArray⟩
theorem ofL_size (l : List UInt8) : (ofL l).size = l.length := by simp [ofL, ByteArray.size]
theorem ofL_list (l : List UInt8) : (ofL l).data.toList = l := by simp [ofL]
theorem ofL_of (s : ByteArray) : ofL s.data.toList = s := by simp [ofL]
theorem by_list (l : List UInt8) (i : Nat) (h : i < l.length) : by_ (ofL l) i = (l[i]).toNat := by
  have := by_get (ofL l) i (by rw [ofL_size]; exact h)
  rw [← this]; rfl
theorem by_at (p q : List UInt8) (j : Nat) (h : j < q.length) : by_ (ofL (p ++ q)) (p.length + j) = (q[j]).toNat := by
  rw [by_list (p ++ q) (p.length + j) (by simp; omega)]
  congr 1
  simp

/-- a number as a rune: itself, or fffd -/
def fixN (n : Int) : Nat := if Utf8.valid n then n.toNat else 65533

theorem valid_iff (n : Int) : Utf8.valid n = true ↔ (0 ≤ n ∧ n < 55296) ∨ (57344 ≤ n ∧ n ≤ 1114111) := by
  unfold Utf8.valid; simp only [Bool.or_eq_true, Bool.and_eq_true, decide_eq_true_eq]

theorem fixN_valid (n : Int) : fixN n < 55296 ∨ (57344 ≤ fixN n ∧ fixN n ≤ 1114111) := by
  unfold fixN
  cases hv : Utf8.valid n with
  | true => rw [if_pos rfl]; have := (valid_iff n).1 hv; omega
  | false => rw [if_neg (by decide)]; omega

theorem enc_fix (n : Int) : Utf8.encode n = Utf8.encode (fixN n : Nat) := by
  unfold fixN
  cases hv : Utf8.valid n with
  | true => rw [if_pos rfl, show ((n.toNat : Nat) : Int) = n from by have := (valid_iff n).1 hv; omega]
  | false =>
    rw [if_neg (by decide)]
    have h2 : Utf8.valid ((65533 : Nat) : Int) = true := val_ok 65533 (by omega)
    simp only [Utf8.encode, hv, h2, if_true, Int.toNat_natCast]
    rfl

theorem encL_fix (n : Int) : encL n = encL (fixN n : Nat) := by
  show bL (Utf8.encode n) = bL (Utf8.encode (fixN n : Nat))
  rw [enc_fix]

/-- a rune's own number stays -/
theorem fixN_nat (c : Nat) (h : c < 55296 ∨ (57344 ≤ c ∧ c ≤ 1114111)) : fixN (c : Int) = c := by
  unfold fixN; rw [if_pos (val_ok c h)]; omega

theorem rn_valid (s : ByteArray) (k : Nat) (hk : k < s.size) : rn s k < 55296 ∨ (57344 ≤ rn s k ∧ rn s k ≤ 1114111) := by
  cases ho : okR s k with
  | false => have := ok_false_iff ho; omega
  | true =>
    rcases ok_cases s k hk ho with ⟨h1, hr, hw⟩ | ⟨hc, hn, hg, hr, hw⟩ | ⟨hc, hn, hg, hg2, hr, hw⟩ | ⟨hc, hn, hg, hg2, hg3, hr, hw⟩
    · omega
    · have hb := hW2_range hc
      omega
    · have hb := hW3_range hc
      have hg' := g1_range (by omega) hg
      unfold g2 at hg2
      omega
    · have hb := hW4_range hc
      have hg' := g1_range (by omega) hg
      unfold g2 at hg2
      unfold g3 at hg3
      omega

theorem u8n (n : Nat) (h : n < 256) : (UInt8.ofNat n).toNat = n := by simp; omega

theorem hW_is1 {b : Nat} (h : b ≤ 127) : hW b = 1 := by unfold hW; rw [if_pos h]
theorem hW_is2 {b : Nat} (h : 194 ≤ b ∧ b ≤ 223) : hW b = 2 := by unfold hW; (repeat' split) <;> omega
theorem hW_is3 {b : Nat} (h : 224 ≤ b ∧ b ≤ 239) : hW b = 3 := by unfold hW; (repeat' split) <;> omega
theorem hW_is4 {b : Nat} (h : 240 ≤ b ∧ b ≤ 244) : hW b = 4 := by unfold hW; (repeat' split) <;> omega
theorem g1_mk {s : ByteArray} {k : Nat} (hb : 194 ≤ by_ s k ∧ by_ s k ≤ 244)
    (h : 128 ≤ by_ s (k + 1) ∧ by_ s (k + 1) ≤ 191 ∧ (by_ s k = 224 → 160 ≤ by_ s (k + 1)) ∧ (by_ s k = 237 → by_ s (k + 1) ≤ 159) ∧ (by_ s k = 240 → 144 ≤ by_ s (k + 1)) ∧ (by_ s k = 244 → by_ s (k + 1) ≤ 143)) : g1 s k := by
  unfold g1 hLo hHi
  (repeat' split) <;> omega

/-- WHAT IS READ WHERE A RUNE WAS LAID. -/
theorem dec_enc (p rest : List UInt8) (n : Int) : Utf8.decode (ofL (p ++ (encL n ++ rest))) p.length = (fixN n, (encL n).length) ∧ okR (ofL (p ++ (encL n ++ rest))) p.length = true := by
  rw [encL_fix]
  have hv := fixN_valid n
  generalize fixN n = c at hv
  have hz := ofL_size (p ++ (encL (c : Nat) ++ rest))
  rw [List.length_append, List.length_append] at hz
  have hb := by_at p (encL (c : Nat) ++ rest)
  generalize ofL (p ++ (encL (c : Nat) ++ rest)) = s at hz hb
  by_cases h1 : c < 128
  · rw [enc1 c h1] at hz hb ⊢
    have b0 := hb 0 (by simp)
    simp only [Nat.add_zero, List.cons_append, List.getElem_cons_zero] at b0
    rw [u8n c (by omega)] at b0
    have hd := dec_one s p.length (by omega)
    rw [b0] at hd
    exact ⟨hd, ok_one hd (by omega)⟩
  · by_cases h2 : c < 2048
    · rw [enc2 c h1 h2] at hz hb ⊢
      have b0 := hb 0 (by simp)
      have b1 := hb 1 (by simp)
      simp only [Nat.add_zero, List.cons_append, List.getElem_cons_zero, List.getElem_cons_succ] at b0 b1
      rw [u8n _ (by omega)] at b0 b1
      have hd := dec_two s p.length (by simp at hz; omega) (hW_is2 (by omega)) (by simp at hz; omega) (g1_mk (by omega) (by omega))
      rw [b0, b1] at hd
      have e : (192 + c / 64) % 32 * 64 + (128 + c % 64) % 64 = c := by omega
      rw [e] at hd
      exact ⟨hd, ok_wide hd (by decide)⟩
    · by_cases h3 : c < 65536
      · rw [enc3 c h2 h3 (by omega)] at hz hb ⊢
        have b0 := hb 0 (by simp)
        have b1 := hb 1 (by simp)
        have b2 := hb 2 (by simp)
        simp only [Nat.add_zero, List.cons_append, List.getElem_cons_zero, List.getElem_cons_succ] at b0 b1 b2
        rw [u8n _ (by omega)] at b0 b1 b2
        have hd := dec_three s p.length (by simp at hz; omega) (hW_is3 (by omega)) (by simp at hz; omega) (g1_mk (by omega) (by omega)) (by unfold g2; omega)
        rw [b0, b1, b2] at hd
        have e : (224 + c / 4096) % 16 * 4096 + (128 + c / 64 % 64) % 64 * 64 + (128 + c % 64) % 64 = c := by omega
        rw [e] at hd
        exact ⟨hd, ok_wide hd (by decide)⟩
      · rw [enc4 c h3 (by omega)] at hz hb ⊢
        have b0 := hb 0 (by simp)
        have b1 := hb 1 (by simp)
        have b2 := hb 2 (by simp)
        have b3 := hb 3 (by simp)
        simp only [Nat.add_zero, List.cons_append, List.getElem_cons_zero, List.getElem_cons_succ] at b0 b1 b2 b3
        rw [u8n _ (by omega)] at b0 b1 b2 b3
        have hd := dec_four s p.length (by simp at hz; omega) (hW_is4 (by omega)) (by simp at hz; omega) (g1_mk (by omega) (by omega)) (by unfold g2; omega) (by unfold g3; omega)
        rw [b0, b1, b2, b3] at hd
        have e : (240 + c / 262144) % 8 * 262144 + (128 + c / 4096 % 64) % 64 * 4096 + (128 + c / 64 % 64) % 64 * 64 + (128 + c % 64) % 64 = c := by omega
        rw [e] at hd
        exact ⟨hd, ok_wide hd (by decide)⟩

/-- the places of runes laid one behind the other -/
theorem encL_pos (n : Int) : 1 ≤ (encL n).length := by
  rw [encL_fix]
  have hv := fixN_valid n
  generalize fixN n = c at hv
  by_cases h1 : c < 128
  · rw [enc1 c h1]; simp
  · by_cases h2 : c < 2048
    · rw [enc2 c h1 h2]; simp
    · by_cases h3 : c < 65536
      · rw [enc3 c h2 h3 (by omega)]; simp
      · rw [enc4 c h3 (by omega)]; simp

theorem encL_le4 (n : Int) : (encL n).length ≤ 4 := by
  rw [encL_fix]
  have hv := fixN_valid n
  generalize fixN n = c at hv
  by_cases h1 : c < 128
  · rw [enc1 c h1]; simp
  · by_cases h2 : c < 2048
    · rw [enc2 c h1 h2]; simp
    · by_cases h3 : c < 65536
      · rw [enc3 c h2 h3 (by omega)]; simp
      · rw [enc4 c h3 (by omega)]; simp

end Go.Proofs.YticjilkcobpcjaaDoor
