/-
  Plain facts: a part of a text has the pieces that lie in it.
-/
import Derived.Test.YtcagfapdhopmjaaPU
set_option linter.unusedSimpArgs false
set_option linter.unusedVariables false
namespace Go.Proofs.Ytcagfapdhopmjaa
open Go.Lib

theorem size_ext (s : ByteArray) (b e : Nat) (he : e ≤ s.size) : (s.extract b e).size = e - b := by
  rw [ByteArray.size_extract]; omega

theorem by_ext (s : ByteArray) (b e i : Nat) (he : e ≤ s.size) (h : b + i < e) : by_ (s.extract b e) i = by_ s (b + i) := by
  rw [← by_get (s.extract b e) i (by rw [size_ext s b e he]; omega), ← by_get s (b + i) (by omega)]
  congr 1
  exact ByteArray.getElem_extract ..

theorem dec_false {s : ByteArray} {k : Nat} (h : okR s k = false) : Utf8.decode s k = (65533, 1) := Prod.ext (ok_false_iff h).1 (ok_false_iff h).2

theorem ok_same {s t : ByteArray} {i j : Nat} (h : Utf8.decode t i = Utf8.decode s j) : okR t i = okR s j := by unfold okR rn wd; rw [h]
theorem wd_same {s t : ByteArray} {i j : Nat} (h : Utf8.decode t i = Utf8.decode s j) : wd t i = wd s j := by unfold wd; rw [h]
theorem rn_same {s t : ByteArray} {i j : Nat} (h : Utf8.decode t i = Utf8.decode s j) : rn t i = rn s j := by unfold rn; rw [h]

theorem g1_same {s t : ByteArray} {i j : Nat} (h0 : by_ t i = by_ s j) (h1 : by_ t (i + 1) = by_ s (j + 1)) (h : g1 s j) : g1 t i := by unfold g1 at *; rw [h0, h1]; exact h
theorem g2_same {s t : ByteArray} {i j : Nat} (h1 : by_ t (i + 2) = by_ s (j + 2)) (h : g2 s j) : g2 t i := by unfold g2 at *; rw [h1]; exact h
theorem g3_same {s t : ByteArray} {i j : Nat} (h1 : by_ t (i + 3) = by_ s (j + 3)) (h : g3 s j) : g3 t i := by unfold g3 at *; rw [h1]; exact h

/-- a rune's bytes in another text: the same rune -/
theorem dec_move {s t : ByteArray} {i j : Nat} (hj : j < s.size) (ho : okR s j = true) (hn : i + wd s j ≤ t.size) (hb : ∀ q, q < wd s j → by_ t (i + q) = by_ s (j + q)) : Utf8.decode t i = Utf8.decode s j := by
  rcases ok_cases s j hj ho with ⟨h1, hr, hw⟩ | ⟨hc, hn1, hg, hr, hw⟩ | ⟨hc, hn1, hg, hg2, hr, hw⟩ | ⟨hc, hn1, hg, hg2, hg3, hr, hw⟩
  · have b0 := hb 0 (by omega)
    simp only [Nat.add_zero] at b0
    rw [dec_one s j h1, dec_one t i (by omega), b0]
  · have b0 := hb 0 (by omega)
    have b1 := hb 1 (by omega)
    simp only [Nat.add_zero] at b0
    rw [dec_two s j hj hc hn1 hg, dec_two t i (by omega) (by rw [b0]; exact hc) (by omega) (g1_same b0 b1 hg), b0, b1]
  · have b0 := hb 0 (by omega)
    have b1 := hb 1 (by omega)
    have b2 := hb 2 (by omega)
    simp only [Nat.add_zero] at b0
    rw [dec_three s j hj hc hn1 hg hg2, dec_three t i (by omega) (by rw [b0]; exact hc) (by omega) (g1_same b0 b1 hg) (g2_same b2 hg2), b0, b1, b2]
  · have b0 := hb 0 (by omega)
    have b1 := hb 1 (by omega)
    have b2 := hb 2 (by omega)
    have b3 := hb 3 (by omega)
    simp only [Nat.add_zero] at b0
    rw [dec_four s j hj hc hn1 hg hg2 hg3, dec_four t i (by omega) (by rw [b0]; exact hc) (by omega) (g1_same b0 b1 hg) (g2_same b2 hg2) (g3_same b3 hg3), b0, b1, b2, b3]

/-- a rune of a part is one of the whole -/
theorem dec_up (s : ByteArray) (b e i : Nat) (he : e ≤ s.size) (hi : b + i < e) (ho : okR (s.extract b e) i = true) : Utf8.decode s (b + i) = Utf8.decode (s.extract b e) i := by
  have hz := size_ext s b e he
  have hl := wd_le (s.extract b e) i (by omega)
  refine dec_move (by omega) ho (by omega) (fun q hq => ?_)
  rw [by_ext s b e (i + q) he (by omega), Nat.add_assoc]

/-- a rune of the whole that lies in a part is one of it -/
theorem dec_down (s : ByteArray) (b e i : Nat) (he : e ≤ s.size) (hi : b + i < e) (ho : okR s (b + i) = true) (hw : b + i + wd s (b + i) ≤ e) : Utf8.decode (s.extract b e) i = Utf8.decode s (b + i) := by
  have hz := size_ext s b e he
  refine dec_move (by omega) ho (by omega) (fun q hq => ?_)
  rw [by_ext s b e (i + q) he (by omega), Nat.add_assoc]

theorem dec_ext {s : ByteArray} {e : Nat} (b i : Nat) (hs : Sync s e) (he : e ≤ s.size) (hi : b + i < e) : Utf8.decode (s.extract b e) i = Utf8.decode s (b + i) := by
  cases ho : okR s (b + i) with
  | true => exact dec_down s b e i he hi ho (hs _ hi ho)
  | false =>
    cases ho2 : okR (s.extract b e) i with
    | true => exact (dec_up s b e i he hi ho2).symm
    | false => rw [dec_false ho, dec_false ho2]

/-- the places of the pieces from a place on -/
def frm (s : ByteArray) (i : Nat) : List Nat := posL s (s.size - i) i

theorem posL_fuel (s : ByteArray) : ∀ (f g i : Nat), s.size ≤ i + f → s.size ≤ i + g → posL s f i = posL s g i
  | 0, g, i, h, h' => by rw [posL_end s 0 i (by omega), posL_end s g i (by omega)]
  | f + 1, 0, i, h, h' => by rw [posL_end s 0 i (by omega), posL_end s (f + 1) i (by omega)]
  | f + 1, g + 1, i, h, h' => by
    by_cases hi : i < s.size
    · have := wd_pos s i hi
      rw [posL_step s f i hi, posL_step s g i hi, posL_fuel s f g _ (by omega) (by omega)]
    · rw [posL_end s _ i hi, posL_end s _ i hi]

theorem frm_end (s : ByteArray) (i : Nat) (h : ¬ i < s.size) : frm s i = [] := posL_end s _ i h
theorem frm_step (s : ByteArray) (i : Nat) (h : i < s.size) : frm s i = i :: frm s (i + wd s i) := by
  have hw := wd_pos s i h
  unfold frm
  obtain ⟨f, hf⟩ : ∃ f, s.size - i = f + 1 := ⟨s.size - i - 1, by omega⟩
  rw [hf, posL_step s f i h, posL_fuel s f (s.size - (i + wd s i)) _ (by omega) (by omega)]
theorem allL_frm (s : ByteArray) : allL s = frm s 0 := rfl
theorem posL_frm (s : ByteArray) (f i : Nat) (h : s.size ≤ i + f) : posL s f i = frm s i := posL_fuel s _ _ i h (by omega)

theorem frm_ge (s : ByteArray) : ∀ (n i : Nat), s.size - i ≤ n → ∀ j ∈ frm s i, i ≤ j ∧ j < s.size
  | 0, i, h, j, hj => by rw [frm_end s i (by omega)] at hj; cases hj
  | n + 1, i, h, j, hj => by
    by_cases hi : i < s.size
    · have hw := wd_pos s i hi
      rw [frm_step s i hi] at hj
      rcases List.mem_cons.1 hj with rfl | hj
      · exact ⟨Nat.le_refl _, hi⟩
      · have := frm_ge s n (i + wd s i) (by omega) j hj
        omega
    · rw [frm_end s i hi] at hj; cases hj

theorem frm_sorted (s : ByteArray) : ∀ (n i : Nat), s.size - i ≤ n → (frm s i).Pairwise (· < ·)
  | 0, i, h => by rw [frm_end s i (by omega)]; exact List.Pairwise.nil
  | n + 1, i, h => by
    by_cases hi : i < s.size
    · have hw := wd_pos s i hi
      rw [frm_step s i hi]
      refine List.Pairwise.cons (fun j hj => ?_) (frm_sorted s n (i + wd s i) (by omega))
      have := frm_ge s _ (i + wd s i) (Nat.le_refl _) j hj
      omega
    · rw [frm_end s i hi]; exact List.Pairwise.nil
theorem allL_sorted (s : ByteArray) : (allL s).Pairwise (· < ·) := frm_sorted s _ 0 (Nat.le_refl _)

theorem mem_frm {s : ByteArray} {i : Nat} (hi : i < s.size) (h : Sync s i) : ∀ (n p : Nat), i - p ≤ n → p ≤ i → i ∈ frm s p
  | 0, p, h1, h2 => by
    obtain rfl : p = i := by omega
    rw [frm_step s p hi]; simp
  | n + 1, p, h1, h2 => by
    by_cases e : p = i
    · subst e; rw [frm_step s p hi]; simp
    · have hp : p < s.size := by omega
      have hw := wd_pos s p hp
      have hle : p + wd s p ≤ i := by
        cases ho : okR s p with
        | true => exact h p (by omega) ho
        | false => have := (ok_false_iff ho).2; omega
      rw [frm_step s p hp]
      exact List.mem_cons_of_mem _ (mem_frm hi h n _ (by omega) hle)

theorem mem_allL {s : ByteArray} {i : Nat} : i ∈ allL s ↔ i < s.size ∧ Sync s i :=
  ⟨fun h => (chain_full s).2.1 i h, fun h => mem_frm h.1 h.2 i 0 (by omega) (by omega)⟩

/-- behind a place of the cut comes the piece behind it -/
theorem frm_split (s : ByteArray) : ∀ (pre : List Nat) (p j : Nat) (rest : List Nat), frm s p = pre ++ j :: rest → j < s.size ∧ j :: rest = frm s j ∧ rest = frm s (j + wd s j)
  | [], p, j, rest, h => by
    by_cases hp : p < s.size
    · rw [frm_step s p hp] at h
      simp at h
      obtain ⟨rfl, rfl⟩ := h
      exact ⟨hp, (frm_step s p hp).symm, rfl⟩
    · rw [frm_end s p hp] at h; cases h
  | a :: pre, p, j, rest, h => by
    by_cases hp : p < s.size
    · rw [frm_step s p hp] at h
      simp at h
      exact frm_split s pre _ j rest h.2
    · rw [frm_end s p hp] at h; cases h

/-- the pieces from a place on: those of the part up to a cut, and those behind it -/
theorem frm_ext {s : ByteArray} {e : Nat} (b : Nat) (hs : Sync s e) (he : e ≤ s.size) : ∀ (n i : Nat), e - (b + i) ≤ n → b + i ≤ e → frm s (b + i) = (frm (s.extract b e) i).map (b + ·) ++ frm s e
  | 0, i, h1, h2 => by
    have hz := size_ext s b e he
    rw [frm_end (s.extract b e) i (by omega), show b + i = e from by omega]; rfl
  | n + 1, i, h1, h2 => by
    have hz := size_ext s b e he
    by_cases hi : b + i < e
    · have hd := dec_ext b i hs he hi
      have hw := wd_pos s (b + i) (by omega)
      have hle : b + i + wd s (b + i) ≤ e := by
        cases ho : okR s (b + i) with
        | true => exact hs _ hi ho
        | false => have := (ok_false_iff ho).2; omega
      rw [frm_step s (b + i) (by omega), frm_step (s.extract b e) i (by omega), wd_same hd, Nat.add_assoc, frm_ext b hs he n (i + wd s (b + i)) (by omega) (by omega)]
      simp
    · rw [frm_end (s.extract b e) i (by omega), show b + i = e from by omega]; rfl

theorem allL_ext {s : ByteArray} {b e : Nat} (hs : Sync s e) (he : e ≤ s.size) (hb : b ≤ e) : frm s b = (allL (s.extract b e)).map (b + ·) ++ frm s e := by
  have := frm_ext b hs he (e - b) 0 (by omega) (by omega)
  simpa [allL_frm] using this

theorem rn_ext {s : ByteArray} {b e i : Nat} (hs : Sync s e) (he : e ≤ s.size) (hi : i ∈ allL (s.extract b e)) : rn (s.extract b e) i = rn s (b + i) := by
  have h := (mem_allL.1 hi).1
  rw [size_ext s b e he] at h
  exact rn_same (dec_ext b i hs he (by omega))

/-- a place of the cut of the whole lies in the cut of a part -/
theorem sync_down {s : ByteArray} {b e i : Nat} (he : e ≤ s.size) (hi : b + i < e) (h : Sync s (b + i)) : i ∈ allL (s.extract b e) := by
  have hz := size_ext s b e he
  refine mem_allL.2 ⟨by omega, fun j hj ho => ?_⟩
  have hd := dec_up s b e j he (by omega) ho
  have := h (b + j) (by omega) (by rw [ok_same hd]; exact ho)
  rw [wd_same hd] at this
  omega

end Go.Proofs.Ytcagfapdhopmjaa
