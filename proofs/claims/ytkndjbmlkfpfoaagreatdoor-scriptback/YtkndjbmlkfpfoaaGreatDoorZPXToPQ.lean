/-
  Plain facts: a part of a text has the pieces that lie in it.
-/
import Derived.Test.YtkndjbmlkfpfoaaGreatDoorZPureWToPU

set_option linter.unusedSimpArgs false
set_option linter.unusedVariables false
namespace Go.Proofs.YtkndjbmlkfpfoaaGreatDoor
open Go.Lib

theorem size_ext (s : ByteArray) (b e : Nat) (he : e ≤ s.size) : (s.extract b e).size = e - b := by
  rw [ByteArray.size_extract]; omega

theorem by_ext (s : ByteArray) (b e i : Nat) (he : e ≤ s.size) (h : b + i < e) : by_ (s.extract b e) i = by_ s (b + i) := by
  rw [← by_get (s.extract b e) i (by rw [size_ext s b e he]; omega), ← by_get s (b + i) (by omega)]
  congr 1
  exact ByteArray.getElem_extract ..

theorem dec_false {s : ByteArray} {k : Nat} (h : okR s k = false) : Utf8.decode s k = (65533, 1) := Prod.ext (ok_false_iff h).1 (ok_false_iff h).2

theorem ok_same {s t : ByteArray} {i j : Nat} (h : Utf8.decode t i = Utf8.decode s j) : okR t i = okR s j := by unfold okR rn wd; rw [h]
theorem wd_same {s t : ByteArray} {i j : Nat} (h : Utf8.decode t i = Utf8.decode s j) : wd t i = wd s j := by unfold wd; rw [h]
theorem rn_same {s t : ByteArray} {i j : Nat} (h : Utf8.decode t i = Utf8.decode s j) : rn t i = rn s j := by unfold rn; rw [h]

theorem g1_same {s t : ByteArray} {i j : Nat} (h0 : by_ t i = by_ s j) (h1 : by_ t (i + 1) = by_ s (j + 1)) (h : g1 s j) : g1 t i := by unfold g1 at *; rw [h0, h1]; exact h
theorem g2_same {s t : ByteArray} {i j : Nat} (h1 : by_ t (i + 2) = by_ s (j + 2)) (h : g2 s j) : g2 t i := by unfold g2 at *; rw [h1]; exact h
theorem g3_same {s t : ByteArray} {i j : Nat} (h1 : by_ t (i + 3) = by_ s (j + 3)) (h : g3 s j) : g3 t i := by unfold g3 at *; rw [h1]; exact h

/-- a rune's bytes in another text: the same rune -/
theorem dec_move {s t : ByteArray} {i j : Nat} (hj : j < s.size) (ho : okR s j = true) (hn : i + wd s j ≤ t.size) (hb : ∀ q, q < wd s j → by_ t (i + q) = by_ s (j + q)) : Utf8.decode t i = Utf8.decode s j := by
  rcases ok_cases s j hj ho with ⟨h1, hr, hw⟩ | ⟨hc, hn1, hg, hr, hw⟩ | ⟨hc, hn1, hg, hg2, hr, hw⟩ | ⟨hc, hn1, hg, hg2, hg3, hr, hw⟩
  · have b0 := hb 0 (by omega)
    simp only [Nat.add_zero] at b0
    rw [dec_one s j h1, dec_one t i (by omega), b0]
  · have b0 := hb 0 (by omega)
    have b1 := hb 1 (by omega)
    simp only [Nat.add_zero] at b0
    rw [dec_two s j hj hc hn1 hg, dec_two t i (by omega) (by rw [b0]; exact hc) (by omega) (g1_same b0 b1 hg), b0, b1]
  · have b0 := hb 0 (by omega)
    have b1 := hb 1 (by omega)
    have b2 := hb 2 (by omega)
    simp only [Nat.add_zero] at b0
    rw [dec_three s j hj hc hn1 hg hg2, dec_three t i (by omega) (by rw [b0]; exact hc) (by omega) (g1_same b0 b1 hg) (g2_same b2 hg2), b0, b1, b2]
  · have b0 := hb 0 (by omega)
    have b1 := hb 1 (by omega)
    have b2 := hb 2 (by omega)
    have b3 := hb 3 (by omega)
    simp only [Nat.add_zero] at b0
    rw [dec_four s j hj hc hn1 hg hg2 hg3, dec_four t i (by omega) (by rw [b0]; exact hc) (by omega) (g1_same b0 b1 hg) (g2_same b2 hg2) (g3_same b3 hg3), b0, b1, b2, b3]

/-- a rune of a part is one of the whole -/
theorem dec_up (s : ByteArray) (b e i : Nat) (he : e ≤ s.size) (hi : b + i < e) (ho : okR (s.extract b e) i = true) : Utf8.decode s (b + i) = Utf8.decode (s.extract b e) i := by
  have hz := size_ext s b e he
  have hl := wd_le (s.extract b e) i (by omega)
  refine dec_move (by omega) ho (by omega) (fun q hq => ?_)
  rw [by_ext s b e (i + q) he (by omega), Nat.add_assoc]

/-- a rune of the whole that lies in a part is one of it -/
theorem dec_down (s : ByteArray) (b e i : Nat) (he : e ≤ s.size) (hi : b + i < e) (ho : okR s (b + i) = true) (hw : b + i + wd s (b + i) ≤ e) : Utf8.decode (s.extract b e) i = Utf8.decode s (b + i) := by
  have hz := size_ext s b e he
  refine dec_move (by omega) ho (by omega) (fun q hq => ?_)
  rw [by_ext s b e (i + q) he (by omega), Nat.add_assoc]

theorem dec_ext {s : ByteArray} {e : Nat} (b i : Nat) (hs : Sync s e) (he : e ≤ s.size) (hi : b + i < e) : Utf8.decode (s.extract b e) i = Utf8.decode s (b + i) := by
  cases ho : okR s (b + i) with
  | true => exact dec_down s b e i he hi ho (hs _ hi ho)
  | false =>
    cases ho2 : okR (s.extract b e) i with
    | true => exact (dec_up s b e i he hi ho2).symm
    | false => rw [dec_false ho, dec_false ho2]

/-- the places of the pieces from a place on -/
def frm (s : ByteArray) (i : Nat) : List Nat := posL s (s.size - i) i

theorem posL_fuel (s : ByteArray) : ∀ (f g i : Nat), s.size ≤ i + f → s.size ≤ i + g → posL s f i = posL s g i
  | 0, g, i, h, h' => by rw [posL_end s 0 i (by omega), posL_end s g i (by omega)]
  | f + 1, 0, i, h, h' => by rw [posL_end s 0 i (by omega), posL_end s (f + 1) i (by omega)]
  | f + 1, g + 1, i, h, h' => by
    by_cases hi : i < s.size
    · have := wd_pos s i hi
      rw [posL_step s f i hi, posL_step s g i hi, posL_fuel s f g _ (by omega) (by omega)]
    · rw [posL_end s _ i hi, posL_end s _ i hi]

theorem frm_end (s : ByteArray) (i : Nat) (h : ¬ i < s.size) : frm s i = [] := posL_end s _ i h
theorem frm_step (s : ByteArray) (i : Nat) (h : i < s.size) : frm s i = i :: frm s (i + wd s i) := by
  have hw := wd_pos s i h
  unfold frm
  obtain ⟨f, hf⟩ : ∃ f, s.size - i = f + 1 := ⟨s.size - i - 1, by omega⟩
  rw [hf, posL_step s f i h, posL_fuel s f (s.size - (i + wd s i)) _ (by omega) (by omega)]
theorem allL_frm (s : ByteArray) : allL s = frm s 0 := rfl
theorem mem_frm {s : ByteArray} {i : Nat} (hi : i < s.size) (h : Sync s i) : ∀ (n p : Nat), i - p ≤ n → p ≤ i → i ∈ frm s p
  | 0, p, h1, h2 => by
    obtain rfl : p = i := by omega
    rw [frm_step s p hi]; simp
  | n + 1, p, h1, h2 => by
    by_cases e : p = i
    · subst e; rw [frm_step s p hi]; simp
    · have hp : p < s.size := by omega
      have hw := wd_pos s p hp
      have hle : p + wd s p ≤ i := by
        cases ho : okR s p with
        | true => exact h p (by omega) ho
        | false => have := (ok_false_iff ho).2; omega
      rw [frm_step s p hp]
      exact List.mem_cons_of_mem _ (mem_frm hi h n _ (by omega) hle)

theorem mem_allL {s : ByteArray} {i : Nat} : i ∈ allL s ↔ i < s.size ∧ Sync s i :=
  ⟨fun h => (chain_full s).2.1 i h, fun h => mem_frm h.1 h.2 i 0 (by omega) (by omega)⟩

end Go.Proofs.YtkndjbmlkfpfoaaGreatDoor

/-
  Plain facts: a rune encoded is the bytes that it was read from; a text that is good all through is its runes encoded.
-/
set_option linter.unusedSimpArgs false
set_option linter.unusedVariables false
namespace Go.Proofs.YtkndjbmlkfpfoaaGreatDoor
open Go.Lib

/-- the bytes of a rune -/
def bL (b : ByteArray) : List UInt8 := b.data.toList
def encL (r : Int) : List UInt8 := bL (Utf8.encode r)
theorem encL_of {r : Int} {x : List UInt8} (h : Utf8.encode r = ⟨x.toArray⟩) : encL r = x := by
  show bL (Utf8.encode r) = x
  rw [h]; rfl

theorem by_ofNat (s : ByteArray) (i : Nat) : UInt8.ofNat (by_ s i) = s.get! i := by unfold by_; exact UInt8.ofNat_toNat
theorem ofNat_by {s : ByteArray} {i n : Nat} (h : n = by_ s i) : UInt8.ofNat n = s.get! i := by rw [h]; exact by_ofNat s i

/-- so many bytes of a text, from a place on -/
def subL (s : ByteArray) (i n : Nat) : List UInt8 := (s.data.toList.drop i).take n

theorem get_list (s : ByteArray) (i : Nat) (h : i < s.size) : s.data.toList[i]'(by simpa using h) = s.get! i := by
  simp [ByteArray.get!, getElem!_pos, h]

theorem drop_step (s : ByteArray) (i : Nat) (h : i < s.size) : s.data.toList.drop i = s.get! i :: s.data.toList.drop (i + 1) := by
  rw [List.drop_eq_getElem_cons (by simpa using h), get_list s i h]

theorem subL_1 (s : ByteArray) (i : Nat) (h : i + 1 ≤ s.size) : subL s i 1 = [s.get! i] := by
  unfold subL; rw [drop_step s i (by omega)]; simp
theorem subL_2 (s : ByteArray) (i : Nat) (h : i + 2 ≤ s.size) : subL s i 2 = [s.get! i, s.get! (i + 1)] := by
  unfold subL; rw [drop_step s i (by omega), drop_step s (i + 1) (by omega)]; simp
theorem subL_3 (s : ByteArray) (i : Nat) (h : i + 3 ≤ s.size) : subL s i 3 = [s.get! i, s.get! (i + 1), s.get! (i + 2)] := by
  unfold subL; rw [drop_step s i (by omega), drop_step s (i + 1) (by omega), drop_step s (i + 1 + 1) (by omega)]; simp
theorem subL_4 (s : ByteArray) (i : Nat) (h : i + 4 ≤ s.size) : subL s i 4 = [s.get! i, s.get! (i + 1), s.get! (i + 2), s.get! (i + 3)] := by
  unfold subL; rw [drop_step s i (by omega), drop_step s (i + 1) (by omega), drop_step s (i + 1 + 1) (by omega), drop_step s (i + 1 + 1 + 1) (by omega)]; simp

theorem val_ok (c : Nat) (h : c < 55296 ∨ (57344 ≤ c ∧ c ≤ 1114111)) : Utf8.valid (c : Int) = true := by
  unfold Utf8.valid; simp only [Bool.or_eq_true, Bool.and_eq_true, decide_eq_true_eq]; omega
theorem utf1 (c : Nat) (h : c < 128) (hv : Utf8.valid (c : Int) = true) : Utf8.encode (c : Int) = ⟨#[UInt8.ofNat c]⟩ := by
  simp only [Utf8.encode, hv, if_true, Int.toNat_natCast, h]
theorem utf2 (c : Nat) (h : ¬ c < 128) (h2 : c < 2048) (hv : Utf8.valid (c : Int) = true) : Utf8.encode (c : Int) = ⟨#[UInt8.ofNat (192 + c / 64), UInt8.ofNat (128 + c % 64)]⟩ := by
  simp only [Utf8.encode, hv, if_true, Int.toNat_natCast, h, if_false, h2]
theorem utf3 (c : Nat) (h : ¬ c < 128) (h2 : ¬ c < 2048) (h3 : c < 65536) (hv : Utf8.valid (c : Int) = true) : Utf8.encode (c : Int) = ⟨#[UInt8.ofNat (224 + c / 4096), UInt8.ofNat (128 + c / 64 % 64), UInt8.ofNat (128 + c % 64)]⟩ := by
  simp only [Utf8.encode, hv, if_true, Int.toNat_natCast, h, if_false, h2, h3]
theorem utf4 (c : Nat) (h : ¬ c < 128) (h2 : ¬ c < 2048) (h3 : ¬ c < 65536) (hv : Utf8.valid (c : Int) = true) : Utf8.encode (c : Int) = ⟨#[UInt8.ofNat (240 + c / 262144), UInt8.ofNat (128 + c / 4096 % 64), UInt8.ofNat (128 + c / 64 % 64), UInt8.ofNat (128 + c % 64)]⟩ := by
  simp only [Utf8.encode, hv, if_true, Int.toNat_natCast, h, if_false, h2, h3]

theorem enc1 (c : Nat) (h : c < 128) : encL (c : Int) = [UInt8.ofNat c] := by
  exact encL_of (utf1 c h (val_ok c (by omega)))
theorem enc2 (c : Nat) (h : ¬ c < 128) (h2 : c < 2048) : encL (c : Int) = [UInt8.ofNat (192 + c / 64), UInt8.ofNat (128 + c % 64)] := by
  exact encL_of (utf2 c h h2 (val_ok c (by omega)))
theorem enc3 (c : Nat) (h : ¬ c < 2048) (h2 : c < 65536) (hv' : c < 55296 ∨ 57344 ≤ c) : encL (c : Int) = [UInt8.ofNat (224 + c / 4096), UInt8.ofNat (128 + c / 64 % 64), UInt8.ofNat (128 + c % 64)] := by
  exact encL_of (utf3 c (by omega) h h2 (val_ok c (by omega)))
theorem enc4 (c : Nat) (h : ¬ c < 65536) (h2 : c ≤ 1114111) : encL (c : Int) = [UInt8.ofNat (240 + c / 262144), UInt8.ofNat (128 + c / 4096 % 64), UInt8.ofNat (128 + c / 64 % 64), UInt8.ofNat (128 + c % 64)] := by
  exact encL_of (utf4 c (by omega) (by omega) h (val_ok c (by omega)))

theorem enc_ok (s : ByteArray) (k : Nat) (hk : k < s.size) (ho : okR s k = true) : encL (rn s k : Nat) = subL s k (wd s k) := by
  rcases ok_cases s k hk ho with ⟨h1, hr, hw⟩ | ⟨hc, hn, hg, hr, hw⟩ | ⟨hc, hn, hg, hg2, hr, hw⟩ | ⟨hc, hn, hg, hg2, hg3, hr, hw⟩
  · rw [hr, hw, enc1 _ (by omega), subL_1 s k (by omega), by_ofNat]
  · have hb := hW2_range hc
    have hg' := g1_range (by omega) hg
    rw [hr, hw, enc2 _ (by omega) (by omega), subL_2 s k (by omega), ofNat_by (s := s) (i := k) (by omega), ofNat_by (s := s) (i := k + 1) (by omega)]
  · have hb := hW3_range hc
    have hg' := g1_range (by omega) hg
    unfold g2 at hg2
    rw [hr, hw, enc3 _ (by omega) (by omega) (by omega), subL_3 s k (by omega), ofNat_by (s := s) (i := k) (by omega), ofNat_by (s := s) (i := k + 1) (by omega), ofNat_by (s := s) (i := k + 2) (by omega)]
  · have hb := hW4_range hc
    have hg' := g1_range (by omega) hg
    unfold g2 at hg2
    unfold g3 at hg3
    rw [hr, hw, enc4 _ (by omega) (by omega), subL_4 s k (by omega), ofNat_by (s := s) (i := k) (by omega), ofNat_by (s := s) (i := k + 1) (by omega), ofNat_by (s := s) (i := k + 2) (by omega), ofNat_by (s := s) (i := k + 3) (by omega)]

def ofL (l : List UInt8) : ByteArray := ⟨l.toArray⟩
theorem ofL_size (l : List UInt8) : (ofL l).size = l.length := by simp [ofL, ByteArray.size]
theorem ofL_list (l : List UInt8) : (ofL l).data.toList = l := by simp [ofL]
theorem ofL_of (s : ByteArray) : ofL s.data.toList = s := by simp [ofL]
theorem by_list (l : List UInt8) (i : Nat) (h : i < l.length) : by_ (ofL l) i = (l[i]).toNat := by
  have := by_get (ofL l) i (by rw [ofL_size]; exact h)
  rw [← this]; rfl
theorem by_at (p q : List UInt8) (j : Nat) (h : j < q.length) : by_ (ofL (p ++ q)) (p.length + j) = (q[j]).toNat := by
  rw [by_list (p ++ q) (p.length + j) (by simp; omega)]
  congr 1
  simp

/-- a number as a rune: itself, or fffd -/
def fixN (n : Int) : Nat := if Utf8.valid n then n.toNat else 65533

theorem valid_iff (n : Int) : Utf8.valid n = true ↔ (0 ≤ n ∧ n < 55296) ∨ (57344 ≤ n ∧ n ≤ 1114111) := by
  unfold Utf8.valid; simp only [Bool.or_eq_true, Bool.and_eq_true, decide_eq_true_eq]

theorem fixN_valid (n : Int) : fixN n < 55296 ∨ (57344 ≤ fixN n ∧ fixN n ≤ 1114111) := by
  unfold fixN
  cases hv : Utf8.valid n with
  | true => rw [if_pos rfl]; have := (valid_iff n).1 hv; omega
  | false => rw [if_neg (by decide)]; omega

theorem enc_fix (n : Int) : Utf8.encode n = Utf8.encode (fixN n : Nat) := by
  unfold fixN
  cases hv : Utf8.valid n with
  | true => rw [if_pos rfl, show ((n.toNat : Nat) : Int) = n from by have := (valid_iff n).1 hv; omega]
  | false =>
    rw [if_neg (by decide)]
    have h2 : Utf8.valid ((65533 : Nat) : Int) = true := val_ok 65533 (by omega)
    simp only [Utf8.encode, hv, h2, if_true, Int.toNat_natCast]
    rfl

theorem encL_fix (n : Int) : encL n = encL (fixN n : Nat) := by
  show bL (Utf8.encode n) = bL (Utf8.encode (fixN n : Nat))
  rw [enc_fix]

/-- a rune's own number stays -/
theorem fixN_nat (c : Nat) (h : c < 55296 ∨ (57344 ≤ c ∧ c ≤ 1114111)) : fixN (c : Int) = c := by
  unfold fixN; rw [if_pos (val_ok c h)]; omega

theorem rn_valid (s : ByteArray) (k : Nat) (hk : k < s.size) : rn s k < 55296 ∨ (57344 ≤ rn s k ∧ rn s k ≤ 1114111) := by
  cases ho : okR s k with
  | false => have := ok_false_iff ho; omega
  | true =>
    rcases ok_cases s k hk ho with ⟨h1, hr, hw⟩ | ⟨hc, hn, hg, hr, hw⟩ | ⟨hc, hn, hg, hg2, hr, hw⟩ | ⟨hc, hn, hg, hg2, hg3, hr, hw⟩
    · omega
    · have hb := hW2_range hc
      omega
    · have hb := hW3_range hc
      have hg' := g1_range (by omega) hg
      unfold g2 at hg2
      omega
    · have hb := hW4_range hc
      have hg' := g1_range (by omega) hg
      unfold g2 at hg2
      unfold g3 at hg3
      omega

theorem u8n (n : Nat) (h : n < 256) : (UInt8.ofNat n).toNat = n := by simp; omega

theorem hW_is2 {b : Nat} (h : 194 ≤ b ∧ b ≤ 223) : hW b = 2 := by unfold hW; (repeat' split) <;> omega
theorem hW_is3 {b : Nat} (h : 224 ≤ b ∧ b ≤ 239) : hW b = 3 := by unfold hW; (repeat' split) <;> omega
theorem hW_is4 {b : Nat} (h : 240 ≤ b ∧ b ≤ 244) : hW b = 4 := by unfold hW; (repeat' split) <;> omega
theorem g1_mk {s : ByteArray} {k : Nat} (hb : 194 ≤ by_ s k ∧ by_ s k ≤ 244)
    (h : 128 ≤ by_ s (k + 1) ∧ by_ s (k + 1) ≤ 191 ∧ (by_ s k = 224 → 160 ≤ by_ s (k + 1)) ∧ (by_ s k = 237 → by_ s (k + 1) ≤ 159) ∧ (by_ s k = 240 → 144 ≤ by_ s (k + 1)) ∧ (by_ s k = 244 → by_ s (k + 1) ≤ 143)) : g1 s k := by
  unfold g1 hLo hHi
  (repeat' split) <;> omega

/-- WHAT IS READ WHERE A RUNE WAS LAID. -/
theorem dec_enc (p rest : List UInt8) (n : Int) : Utf8.decode (ofL (p ++ (encL n ++ rest))) p.length = (fixN n, (encL n).length) ∧ okR (ofL (p ++ (encL n ++ rest))) p.length = true := by
  rw [encL_fix]
  have hv := fixN_valid n
  generalize fixN n = c at hv
  have hz := ofL_size (p ++ (encL (c : Nat) ++ rest))
  rw [List.length_append, List.length_append] at hz
  have hb := by_at p (encL (c : Nat) ++ rest)
  generalize ofL (p ++ (encL (c : Nat) ++ rest)) = s at hz hb
  by_cases h1 : c < 128
  · rw [enc1 c h1] at hz hb ⊢
    have b0 := hb 0 (by simp)
    simp only [Nat.add_zero, List.cons_append, List.getElem_cons_zero] at b0
    rw [u8n c (by omega)] at b0
    have hd := dec_one s p.length (by omega)
    rw [b0] at hd
    exact ⟨hd, ok_one hd (by omega)⟩
  · by_cases h2 : c < 2048
    · rw [enc2 c h1 h2] at hz hb ⊢
      have b0 := hb 0 (by simp)
      have b1 := hb 1 (by simp)
      simp only [Nat.add_zero, List.cons_append, List.getElem_cons_zero, List.getElem_cons_succ] at b0 b1
      rw [u8n _ (by omega)] at b0 b1
      have hd := dec_two s p.length (by simp at hz; omega) (hW_is2 (by omega)) (by simp at hz; omega) (g1_mk (by omega) (by omega))
      rw [b0, b1] at hd
      have e : (192 + c / 64) % 32 * 64 + (128 + c % 64) % 64 = c := by omega
      rw [e] at hd
      exact ⟨hd, ok_wide hd (by decide)⟩
    · by_cases h3 : c < 65536
      · rw [enc3 c h2 h3 (by omega)] at hz hb ⊢
        have b0 := hb 0 (by simp)
        have b1 := hb 1 (by simp)
        have b2 := hb 2 (by simp)
        simp only [Nat.add_zero, List.cons_append, List.getElem_cons_zero, List.getElem_cons_succ] at b0 b1 b2
        rw [u8n _ (by omega)] at b0 b1 b2
        have hd := dec_three s p.length (by simp at hz; omega) (hW_is3 (by omega)) (by simp at hz; omega) (g1_mk (by omega) (by omega)) (by unfold g2; omega)
        rw [b0, b1, b2] at hd
        have e : (224 + c / 4096) % 16 * 4096 + (128 + c / 64 % 64) % 64 * 64 + (128 + c % 64) % 64 = c := by omega
        rw [e] at hd
        exact ⟨hd, ok_wide hd (by decide)⟩
      · rw [enc4 c h3 (by omega)] at hz hb ⊢
        have b0 := hb 0 (by simp)
        have b1 := hb 1 (by simp)
        have b2 := hb 2 (by simp)
        have b3 := hb 3 (by simp)
        simp only [Nat.add_zero, List.cons_append, List.getElem_cons_zero, List.getElem_cons_succ] at b0 b1 b2 b3
        rw [u8n _ (by omega)] at b0 b1 b2 b3
        have hd := dec_four s p.length (by simp at hz; omega) (hW_is4 (by omega)) (by simp at hz; omega) (g1_mk (by omega) (by omega)) (by unfold g2; omega) (by unfold g3; omega)
        rw [b0, b1, b2, b3] at hd
        have e : (240 + c / 262144) % 8 * 262144 + (128 + c / 4096 % 64) % 64 * 4096 + (128 + c / 64 % 64) % 64 * 64 + (128 + c % 64) % 64 = c := by omega
        rw [e] at hd
        exact ⟨hd, ok_wide hd (by decide)⟩

/-- the places of runes laid one behind the other -/
theorem encL_pos (n : Int) : 1 ≤ (encL n).length := by
  rw [encL_fix]
  have hv := fixN_valid n
  generalize fixN n = c at hv
  by_cases h1 : c < 128
  · rw [enc1 c h1]; simp
  · by_cases h2 : c < 2048
    · rw [enc2 c h1 h2]; simp
    · by_cases h3 : c < 65536
      · rw [enc3 c h2 h3 (by omega)]; simp
      · rw [enc4 c h3 (by omega)]; simp

theorem encL_le4 (n : Int) : (encL n).length ≤ 4 := by
  rw [encL_fix]
  have hv := fixN_valid n
  generalize fixN n = c at hv
  by_cases h1 : c < 128
  · rw [enc1 c h1]; simp
  · by_cases h2 : c < 2048
    · rw [enc2 c h1 h2]; simp
    · by_cases h3 : c < 65536
      · rw [enc3 c h2 h3 (by omega)]; simp
      · rw [enc4 c h3 (by omega)]; simp

end Go.Proofs.YtkndjbmlkfpfoaaGreatDoor

/-
  Plain facts: what a text in quotes is, and what a quoted text says.
-/
set_option linter.unusedSimpArgs false
set_option linter.unusedVariables false
namespace Go.Proofs.YtkndjbmlkfpfoaaGreatDoor
open Go.Lib

/-- a hexadecimal digit -/
def hxD (n : Nat) : UInt8 := UInt8.ofNat (if n < 10 then 48 + n else 87 + n)
/-- the hexadecimal digits of a number -/
def hxF : Nat → Nat → List UInt8
  | 0, _ => []
  | f + 1, n => if n = 0 then [] else hxF f (n / 16) ++ [hxD (n % 16)]
def hxL (n : Nat) : List UInt8 := hxF n n
/-- is a rune one that nobody sees? -/
def hidN (r : Nat) : Bool := decide ((128 ≤ r ∧ r ≤ 159) ∨ r = 173 ∨ (8203 ≤ r ∧ r ≤ 8207) ∨ (8232 ≤ r ∧ r ≤ 8239) ∨ (8288 ≤ r ∧ r ≤ 8303) ∨ (57344 ≤ r ∧ r ≤ 63743) ∨ (65024 ≤ r ∧ r ≤ 65039) ∨ r = 65279 ∨ 917504 ≤ r)
/-- an escape of two signs -/
def ltN (r : Nat) : Nat := if r = 34 then 34 else if r = 92 then 92 else if r = 10 then 110 else if r = 13 then 114 else if r = 9 then 116 else 0
/-- may it not stand as itself? -/
def rawB (s : ByteArray) (i : Nat) : Bool := decide (rn s i < 32) || decide (rn s i = 127) || !okR s i
def bxL (b : Nat) : List UInt8 := [92, 120, hxD (b / 16), hxD (b % 16)]
def uxL (r : Nat) : List UInt8 := 92 :: 117 :: 123 :: (hxL r ++ [125])
/-- what stands of the rune at a place -/
def qP (s : ByteArray) (i : Nat) : List UInt8 :=
  if ltN (rn s i) ≠ 0 then [92, UInt8.ofNat (ltN (rn s i))]
  else if rawB s i then bxL (by_ s i)
  else if hidN (rn s i) then uxL (rn s i)
  else encL (rn s i : Nat)
def qL (s : ByteArray) (l : List Nat) : List UInt8 := l.flatMap (qP s)
theorem qL_snoc (s : ByteArray) (l : List Nat) (i : Nat) : qL s (l ++ [i]) = qL s l ++ qP s i := by simp [qL]
/-- A TEXT IN QUOTES -/
def qT (s : ByteArray) : ByteArray := ofL (34 :: (qL s (allL s) ++ [34]))

/-- a hexadecimal digit's number; 16: it is none -/
def dgV (b : Nat) : Nat := if 48 ≤ b ∧ b ≤ 57 then b - 48 else if 97 ≤ b ∧ b ≤ 102 then b - 87 else 16
/-- the digits at a place: their number, and how many there are, at most so many -/
def hxR (s : ByteArray) (i : Nat) : Nat → Nat → Nat → Nat × Nat
  | 0, n, k => (n, k)
  | f + 1, n, k => if i + k < s.size ∧ dgV (by_ s (i + k)) < 16 then hxR s i f (16 * n + dgV (by_ s (i + k))) (k + 1) else (n, k)
def byteE (s : ByteArray) (i : Nat) : Option (List UInt8 × Nat) :=
  if (hxR s i 2 0 0).2 = 2 then some ([UInt8.ofNat (hxR s i 2 0 0).1], 4) else none
def runeE (s : ByteArray) (i : Nat) : Option (List UInt8 × Nat) :=
  let n := (hxR s i 6 0 0).1
  let k := (hxR s i 6 0 0).2
  if k = 0 ∨ (1 < k ∧ by_ s i = 48) then none
  else if i + k < s.size ∧ by_ s (i + k) = 125 ∧ Utf8.valid (n : Int) = true then some (encL (n : Int), k + 4) else none
/-- what the escape says that begins at a place -/
def escE (s : ByteArray) (i : Nat) : Option (List UInt8 × Nat) :=
  if i + 1 < s.size then
    if by_ s (i + 1) = 34 then some ([34], 2) else if by_ s (i + 1) = 92 then some ([92], 2)
    else if by_ s (i + 1) = 110 then some ([10], 2) else if by_ s (i + 1) = 114 then some ([13], 2) else if by_ s (i + 1) = 116 then some ([9], 2)
    else if by_ s (i + 1) = 120 then byteE s (i + 2)
    else if by_ s (i + 1) = 117 ∧ i + 2 < s.size ∧ by_ s (i + 2) = 123 then runeE s (i + 3)
    else none
  else none
/-- what a quoted text says behind its first quote -/
def rdF (s : ByteArray) : Nat → Nat → List UInt8 → List UInt8 × Nat × Bool
  | 0, i, acc => ([], s.size, false)
  | f + 1, i, acc =>
    if i < s.size then
      if by_ s i = 34 then (acc, i + 1, true)
      else if by_ s i = 92 then match escE s i with
        | none => ([], i, false)
        | some (x, n) => rdF s f (i + n) (acc ++ x)
      else if rawB s i then ([], i, false)
      else rdF s f (i + wd s i) (acc ++ encL (rn s i : Nat))
    else ([], s.size, false)
def rdE (s : ByteArray) (i : Nat) : List UInt8 × Nat × Bool := rdF s (s.size - i) i []
def uqOk (s : ByteArray) : Bool := decide (0 < s.size) && decide (by_ s 0 = 34) && (rdE s 1).2.2 && decide ((rdE s 1).2.1 = s.size)
def uqT (s : ByteArray) : ByteArray := if uqOk s then ofL (rdE s 1).1 else ofL []
end Go.Proofs.YtkndjbmlkfpfoaaGreatDoor
