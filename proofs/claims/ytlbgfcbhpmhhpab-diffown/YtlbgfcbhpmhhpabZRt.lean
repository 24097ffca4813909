/-
  Plain facts: what is read of a text that was laid of runes: the runes again, each with its bytes; a list of numbers, there and back.
-/
import Derived.Test.YtlbgfcbhpmhhpabZUtf
set_option linter.unusedSimpArgs false
set_option linter.unusedVariables false
namespace Go.Proofs.Ytlbgfcbhpmhhpab
open Go.RowKit Go.Lib

/-- a text of these bytes -/
def ofL (l : List UInt8) : ByteArray := ⟨l.toArray⟩
theorem ofL_size (l : List UInt8) : (ofL l).size = l.length := by simp [ofL, ByteArray.size]
theorem ofL_list (l : List UInt8) : (ofL l).data.toList = l := by simp [ofL]
theorem ofL_of (s : ByteArray) : ofL s.data.toList = s := by simp [ofL]
theorem by_list (l : List UInt8) (i : Nat) (h : i < l.length) : by_ (ofL l) i = (l[i]).toNat := by
  have := by_get (ofL l) i (by rw [ofL_size]; exact h)
  rw [← this]; rfl
theorem by_at (p q : List UInt8) (j : Nat) (h : j < q.length) : by_ (ofL (p ++ q)) (p.length + j) = (q[j]).toNat := by
  rw [by_list (p ++ q) (p.length + j) (by simp; omega)]
  congr 1
  simp

/-- a number as a rune: itself, or fffd -/
def fixN (n : Int) : Nat := if Utf8.valid n then n.toNat else 65533

theorem valid_iff (n : Int) : Utf8.valid n = true ↔ (0 ≤ n ∧ n < 55296) ∨ (57344 ≤ n ∧ n ≤ 1114111) := by
  unfold Utf8.valid; simp only [Bool.or_eq_true, Bool.and_eq_true, decide_eq_true_eq]

theorem fixN_valid (n : Int) : fixN n < 55296 ∨ (57344 ≤ fixN n ∧ fixN n ≤ 1114111) := by
  unfold fixN
  cases hv : Utf8.valid n with
  | true => rw [if_pos rfl]; have := (valid_iff n).1 hv; omega
  | false => rw [if_neg (by decide)]; omega

theorem enc_fix (n : Int) : Utf8.encode n = Utf8.encode (fixN n : Nat) := by
  unfold fixN
  cases hv : Utf8.valid n with
  | true => rw [if_pos rfl, show ((n.toNat : Nat) : Int) = n from by have := (valid_iff n).1 hv; omega]
  | false =>
    rw [if_neg (by decide)]
    have h2 : Utf8.valid ((65533 : Nat) : Int) = true := val_ok 65533 (by omega)
    simp only [Utf8.encode, hv, h2, if_true, Int.toNat_natCast]
    rfl

theorem encL_fix (n : Int) : encL n = encL (fixN n : Nat) := by
  show bL (Utf8.encode n) = bL (Utf8.encode (fixN n : Nat))
  rw [enc_fix]

/-- a rune's own number stays -/
theorem fixN_nat (c : Nat) (h : c < 55296 ∨ (57344 ≤ c ∧ c ≤ 1114111)) : fixN (c : Int) = c := by
  unfold fixN; rw [if_pos (val_ok c h)]; omega

theorem rn_valid (s : ByteArray) (k : Nat) (hk : k < s.size) : rn s k < 55296 ∨ (57344 ≤ rn s k ∧ rn s k ≤ 1114111) := by
  cases ho : okR s k with
  | false => have := ok_false_iff ho; omega
  | true =>
    rcases ok_cases s k hk ho with ⟨h1, hr, hw⟩ | ⟨hc, hn, hg, hr, hw⟩ | ⟨hc, hn, hg, hg2, hr, hw⟩ | ⟨hc, hn, hg, hg2, hg3, hr, hw⟩
    · omega
    · have hb := hW2_range hc
      omega
    · have hb := hW3_range hc
      have hg' := g1_range (by omega) hg
      unfold g2 at hg2
      omega
    · have hb := hW4_range hc
      have hg' := g1_range (by omega) hg
      unfold g2 at hg2
      unfold g3 at hg3
      omega

theorem u8n (n : Nat) (h : n < 256) : (UInt8.ofNat n).toNat = n := by simp; omega

theorem hW_is1 {b : Nat} (h : b ≤ 127) : hW b = 1 := by unfold hW; rw [if_pos h]
theorem hW_is2 {b : Nat} (h : 194 ≤ b ∧ b ≤ 223) : hW b = 2 := by unfold hW; (repeat' split) <;> omega
theorem hW_is3 {b : Nat} (h : 224 ≤ b ∧ b ≤ 239) : hW b = 3 := by unfold hW; (repeat' split) <;> omega
theorem hW_is4 {b : Nat} (h : 240 ≤ b ∧ b ≤ 244) : hW b = 4 := by unfold hW; (repeat' split) <;> omega
theorem g1_mk {s : ByteArray} {k : Nat} (hb : 194 ≤ by_ s k ∧ by_ s k ≤ 244)
    (h : 128 ≤ by_ s (k + 1) ∧ by_ s (k + 1) ≤ 191 ∧ (by_ s k = 224 → 160 ≤ by_ s (k + 1)) ∧ (by_ s k = 237 → by_ s (k + 1) ≤ 159) ∧ (by_ s k = 240 → 144 ≤ by_ s (k + 1)) ∧ (by_ s k = 244 → by_ s (k + 1) ≤ 143)) : g1 s k := by
  unfold g1 hLo hHi
  (repeat' split) <;> omega

/-- WHAT IS READ WHERE A RUNE WAS LAID. -/
theorem dec_enc (p rest : List UInt8) (n : Int) : Utf8.decode (ofL (p ++ (encL n ++ rest))) p.length = (fixN n, (encL n).length) ∧ okR (ofL (p ++ (encL n ++ rest))) p.length = true := by
  rw [encL_fix]
  have hv := fixN_valid n
  generalize fixN n = c at hv
  have hz := ofL_size (p ++ (encL (c : Nat) ++ rest))
  rw [List.length_append, List.length_append] at hz
  have hb := by_at p (encL (c : Nat) ++ rest)
  generalize ofL (p ++ (encL (c : Nat) ++ rest)) = s at hz hb
  by_cases h1 : c < 128
  · rw [enc1 c h1] at hz hb ⊢
    have b0 := hb 0 (by simp)
    simp only [Nat.add_zero, List.cons_append, List.getElem_cons_zero] at b0
    rw [u8n c (by omega)] at b0
    have hd := dec_one s p.length (by omega)
    rw [b0] at hd
    exact ⟨hd, ok_one hd (by omega)⟩
  · by_cases h2 : c < 2048
    · rw [enc2 c h1 h2] at hz hb ⊢
      have b0 := hb 0 (by simp)
      have b1 := hb 1 (by simp)
      simp only [Nat.add_zero, List.cons_append, List.getElem_cons_zero, List.getElem_cons_succ] at b0 b1
      rw [u8n _ (by omega)] at b0 b1
      have hd := dec_two s p.length (by simp at hz; omega) (hW_is2 (by omega)) (by simp at hz; omega) (g1_mk (by omega) (by omega))
      rw [b0, b1] at hd
      have e : (192 + c / 64) % 32 * 64 + (128 + c % 64) % 64 = c := by omega
      rw [e] at hd
      exact ⟨hd, ok_wide hd (by decide)⟩
    · by_cases h3 : c < 65536
      · rw [enc3 c h2 h3 (by omega)] at hz hb ⊢
        have b0 := hb 0 (by simp)
        have b1 := hb 1 (by simp)
        have b2 := hb 2 (by simp)
        simp only [Nat.add_zero, List.cons_append, List.getElem_cons_zero, List.getElem_cons_succ] at b0 b1 b2
        rw [u8n _ (by omega)] at b0 b1 b2
        have hd := dec_three s p.length (by simp at hz; omega) (hW_is3 (by omega)) (by simp at hz; omega) (g1_mk (by omega) (by omega)) (by unfold g2; omega)
        rw [b0, b1, b2] at hd
        have e : (224 + c / 4096) % 16 * 4096 + (128 + c / 64 % 64) % 64 * 64 + (128 + c % 64) % 64 = c := by omega
        rw [e] at hd
        exact ⟨hd, ok_wide hd (by decide)⟩
      · rw [enc4 c h3 (by omega)] at hz hb ⊢
        have b0 := hb 0 (by simp)
        have b1 := hb 1 (by simp)
        have b2 := hb 2 (by simp)
        have b3 := hb 3 (by simp)
        simp only [Nat.add_zero, List.cons_append, List.getElem_cons_zero, List.getElem_cons_succ] at b0 b1 b2 b3
        rw [u8n _ (by omega)] at b0 b1 b2 b3
        have hd := dec_four s p.length (by simp at hz; omega) (hW_is4 (by omega)) (by simp at hz; omega) (g1_mk (by omega) (by omega)) (by unfold g2; omega) (by unfold g3; omega)
        rw [b0, b1, b2, b3] at hd
        have e : (240 + c / 262144) % 8 * 262144 + (128 + c / 4096 % 64) % 64 * 4096 + (128 + c / 64 % 64) % 64 * 64 + (128 + c % 64) % 64 = c := by omega
        rw [e] at hd
        exact ⟨hd, ok_wide hd (by decide)⟩

/-- the places of runes laid one behind the other -/
def startsL : Nat → List Int → List Nat
  | _, [] => []
  | i, n :: ns => i :: startsL (i + (encL n).length) ns

theorem encL_pos (n : Int) : 1 ≤ (encL n).length := by
  rw [encL_fix]
  have hv := fixN_valid n
  generalize fixN n = c at hv
  by_cases h1 : c < 128
  · rw [enc1 c h1]; simp
  · by_cases h2 : c < 2048
    · rw [enc2 c h1 h2]; simp
    · by_cases h3 : c < 65536
      · rw [enc3 c h2 h3 (by omega)]; simp
      · rw [enc4 c h3 (by omega)]; simp

theorem posL_laid : ∀ (ns : List Int) (p : List UInt8) (f : Nat), (ns.flatMap encL).length ≤ f →
    posL (ofL (p ++ ns.flatMap encL)) f p.length = startsL p.length ns
  | [], p, f, _ => by rw [posL_end _ _ _ (by rw [ofL_size]; simp)]; rfl
  | n :: ns, p, f, hf => by
    have hp := encL_pos n
    rw [List.flatMap_cons] at hf ⊢
    rw [List.length_append] at hf
    obtain ⟨g, rfl⟩ : ∃ g, f = g + 1 := ⟨f - 1, by omega⟩
    have hd := (dec_enc p (ns.flatMap encL) n).1
    rw [posL_step _ _ _ (by rw [ofL_size]; simp; omega), wd_of hd]
    have ih := posL_laid ns (p ++ encL n) g (by omega)
    rw [List.append_assoc, List.length_append] at ih
    rw [ih]; rfl

theorem rn_laid : ∀ (ns : List Int) (p : List UInt8), (startsL p.length ns).map (fun i => (rn (ofL (p ++ ns.flatMap encL)) i : Int)) = ns.map (fun n => (fixN n : Int)) ∧ ∀ i ∈ startsL p.length ns, okR (ofL (p ++ ns.flatMap encL)) i = true
  | [], p => by simp [startsL]
  | n :: ns, p => by
    have hd := dec_enc p (ns.flatMap encL) n
    have ih := rn_laid ns (p ++ encL n)
    rw [List.append_assoc, List.length_append] at ih
    rw [List.flatMap_cons]
    constructor
    · rw [show startsL p.length (n :: ns) = p.length :: startsL (p.length + (encL n).length) ns from rfl, List.map_cons, List.map_cons, ih.1, rn_of hd.1]
    · intro i hi
      rcases List.mem_cons.1 hi with rfl | hi
      · exact hd.2
      · exact ih.2 i hi

theorem startsL_length : ∀ (ns : List Int) (i : Nat), (startsL i ns).length = ns.length
  | [], _ => rfl
  | n :: ns, i => by simp [startsL, startsL_length ns]

/-- A TEXT LAID OF RUNES IS READ AS THESE. -/
theorem allL_laid (ns : List Int) : allL (runesBytes ns) = startsL 0 ns := by
  have := posL_laid ns [] (ns.flatMap encL).length (Nat.le_refl _)
  rw [runesBytes_eq]
  unfold allL
  rw [show (⟨(ns.flatMap encL).toArray⟩ : ByteArray) = ofL (ns.flatMap encL) from rfl, ofL_size]
  simpa using this
theorem runeL_laid (ns : List Int) : runeL (runesBytes ns) = ns.map (fun n => (fixN n : Int)) := by
  have := (rn_laid ns []).1
  unfold runeL
  rw [allL_laid, runesBytes_eq]
  simpa [ofL] using this
theorem ok_laid (ns : List Int) : ∀ i ∈ allL (runesBytes ns), okR (runesBytes ns) i = true := by
  have := (rn_laid ns []).2
  rw [allL_laid, runesBytes_eq]
  simpa [ofL] using this
theorem count_laid (ns : List Int) : (allL (runesBytes ns)).length = ns.length := by rw [allL_laid, startsL_length]

theorem posL_lt (s : ByteArray) : ∀ (f i : Nat), ∀ j ∈ posL s f i, j < s.size
  | 0, _, j, h => by cases h
  | f + 1, i, j, h => by
    unfold posL at h
    split at h
    · rcases List.mem_cons.1 h with rfl | h
      · assumption
      · exact posL_lt s f _ j h
    · cases h

/-- the runes of a text are runes -/
theorem runeL_fix (s : ByteArray) : (runeL s).map (fun n => (fixN n : Int)) = runeL s := by
  unfold runeL
  rw [List.map_map]
  apply List.map_congr_left
  intro i hi
  show ((fixN (rn s i : Nat) : Nat) : Int) = _
  rw [fixN_nat _ (rn_valid s i (posL_lt s _ _ i hi))]

end Go.Proofs.Ytlbgfcbhpmhhpab
