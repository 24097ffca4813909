/-
  A list that is a vector is the vector of what it says. Pure.
-/
import Derived.Test.YtjiphechhfifgaaZXV0
set_option linter.unusedSimpArgs false
set_option linter.unusedVariables false
namespace Go.Proofs.Ytjiphechhfifgaa
open Go.RowKit Go.Lib

theorem vecN_stop {s : Nat → Int} {j : Nat} (h : ∀ i, j ≤ i → s i = 0) : ∀ k, vecN s (j + k) = vecN s j
  | 0 => rfl
  | k + 1 => by rw [← Nat.add_assoc, vecN_neg (by rw [h (j + k) (by omega)]; omega), vecN_stop h k]
theorem vecN_below {s : Nat → Int} {j : Nat} {x : Int} : ∀ k, k ≤ j → vecN (put1 s j x) k = vecN s k
  | 0, _ => rfl
  | k + 1, h => by rw [vecN_step, vecN_step, vecN_below k (by omega), put1_other _ _ _ _ (by omega)]
theorem vec_snoc {s : Nat → Int} {j : Nat} {x : Int} (hj : j < 17) (hx : 0 < x) (h : ∀ i, j ≤ i → s i = 0) : vec (put1 s j x) = vec s ++ [((j : Int), x)] := by
  have h1 : vec (put1 s j x) = vecN (put1 s j x) (j + 1) := by
    have := vecN_stop (s := put1 s j x) (j := j + 1) (fun i hi => by rw [put1_other _ _ _ _ (by omega)]; exact h i (by omega)) (17 - (j + 1))
    rw [show j + 1 + (17 - (j + 1)) = 17 by omega] at this
    exact this
  have h2 : vec s = vecN s j := by
    have := vecN_stop (s := s) (j := j) h (17 - j)
    rw [show j + (17 - j) = 17 by omega] at this
    exact this
  rw [h1, h2, vecN_pos (by rw [put1_self]; exact hx), put1_self, vecN_below j (by omega)]

structure TkI (acc : List (Int × Int)) (site : Int) : Prop where
  same : vec (sy acc) = acc
  zero : ∀ i : Nat, site < (i : Int) → sy acc i = 0
  lo : 0 ≤ site
  hi : site ≤ 16
theorem TkI.none : TkI [] 0 := ⟨rfl, fun _ _ => rfl, by omega, by omega⟩
theorem TkI.sy_next {acc : List (Int × Int)} {site : Int} (h : TkI acc site) {a b : Nat} (h1 : site + 1 ≤ (a : Int)) (h2 : (a : Int) ≤ 16) (h3 : 1 ≤ (b : Int)) (h4 : (b : Int) ≤ 2147483647) : sy (acc ++ [((a : Int), (b : Int))]) = put1 (sy acc) a b := by
  have := h.lo
  rw [sy_snoc, syF, if_pos ((okD_iff _).2 ⟨⟨by show (1 : Int) ≤ (a : Int); omega, h2⟩, h3, h4⟩)]
  show put1 (sy acc) (a : Int).toNat (max (sy acc (a : Int).toNat) (b : Int)) = _
  rw [Int.toNat_natCast, h.zero a (by omega), show max (0 : Int) (b : Int) = (b : Int) by omega]
theorem TkI.next {acc : List (Int × Int)} {site : Int} (h : TkI acc site) {a b : Nat} (h1 : site + 1 ≤ (a : Int)) (h2 : (a : Int) ≤ 16) (h3 : 1 ≤ (b : Int)) (h4 : (b : Int) ≤ 2147483647) : TkI (acc ++ [((a : Int), (b : Int))]) a := by
  have e := h.sy_next h1 h2 h3 h4
  have := h.lo
  refine ⟨?_, fun i hi => ?_, by omega, h2⟩
  · rw [e, vec_snoc (by omega) (by omega) (fun i hi => h.zero i (by omega)), h.same]
  · rw [e, put1_other _ _ _ _ (by omega)]; exact h.zero i (by omega)

theorem chk_TkI : ∀ (d acc : List (Int × Int)) (site : Int), TkI acc site → chkF site d = 0 → ∃ s', TkI (acc ++ d) s'
  | [], acc, site, h, _ => ⟨site, by simpa using h⟩
  | x :: d, acc, site, hI, h => by
    obtain ⟨x0, x1⟩ := x
    rw [chkF] at h
    by_cases h1 : 1 ≤ x0 ∧ x0 ≤ 16
    · rw [if_neg (by simpa using h1)] at h
      by_cases h2 : 1 ≤ x1 ∧ x1 ≤ 2147483647
      · rw [if_neg (by simpa using h2)] at h
        by_cases h3 : x0 ≤ site
        · rw [if_pos h3] at h; simp at h
        · rw [if_neg h3] at h
          obtain ⟨a, rfl⟩ : ∃ a : Nat, x0 = (a : Int) := ⟨x0.toNat, by omega⟩
          obtain ⟨b, rfl⟩ : ∃ b : Nat, x1 = (b : Int) := ⟨x1.toNat, by omega⟩
          have := chk_TkI d (acc ++ [((a : Int), (b : Int))]) a (hI.next (by omega) (by omega) (by omega) (by omega)) h
          simpa using this
      · rw [if_pos (by simpa using h2)] at h; simp at h
    · rw [if_pos (by simpa using h1)] at h; simp at h
theorem vec_of_chk {l : List (Int × Int)} (h : chk l = 0) : vec (sy l) = l := by
  obtain ⟨s, hI⟩ := chk_TkI l [] 0 TkI.none h
  have := hI.same
  simpa using this

end Go.Proofs.Ytjiphechhfifgaa
