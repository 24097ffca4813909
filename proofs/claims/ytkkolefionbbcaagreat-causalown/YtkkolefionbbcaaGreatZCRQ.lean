/-
  Sorting by neighbours that change places, from behind. Pure.
-/
import Derived.Test.YtkkolefionbbcaaGreatZPSo
set_option linter.unusedSimpArgs false
set_option linter.unusedVariables false
namespace Go.Proofs.YtkkolefionbbcaaGreat

def SrtI (l : List (Int × Int)) : Prop := l.Pairwise fun x y => ¬ lexLt y x
theorem perm_srt_eq : ∀ (l m : List (Int × Int)), l.Perm m → SrtI l → SrtI m → l = m
  | [], m, h, _, _ => h.nil_eq
  | a :: l, [], h, _, _ => absurd h.length_eq (by simp)
  | a :: l, b :: m, h, h1, h2 => by
    unfold SrtI at h1 h2
    rw [List.pairwise_cons] at h1 h2
    have e : a = b := by
      have p1 : a ∈ b :: m := h.subset (List.mem_cons_self ..)
      have p2 : b ∈ a :: l := h.symm.subset (List.mem_cons_self ..)
      rcases List.mem_cons.1 p1 with e | p1
      · exact e
      · rcases List.mem_cons.1 p2 with e | p2
        · exact e.symm
        · rcases lex_tri a b with e | e | e
          · exact absurd e (h2.1 a p1)
          · exact e
          · exact absurd e (h1.1 b p2)
    subst e
    rw [perm_srt_eq l m h.cons_inv h1.2 h2.2]
theorem sortI_uniq {l m : List (Int × Int)} (h : l.Perm m) (hs : SrtI l) : l = sortI m := perm_srt_eq l _ (h.trans (sortI_perm m).symm) hs (sortI_sorted m)
/-- in order, but what stands at k may belong further in front -/
structure SwR (l : List (Int × Int)) (k : Nat) : Prop where
  lt : k < l.length
  ord : ∀ p q x y, p < q → q ≠ k → l[p]? = some x → l[q]? = some y → ¬ lexLt y x
theorem srt_at {l : List (Int × Int)} : SrtI l ↔ ∀ (p q : Nat) x y, p < q → l[p]? = some x → l[q]? = some y → ¬ lexLt y x := by
  unfold SrtI
  rw [List.pairwise_iff_getElem]
  constructor
  · intro h p q x y hpq hx hy
    obtain ⟨h1, e1⟩ := List.getElem?_eq_some_iff.1 hx
    obtain ⟨h2, e2⟩ := List.getElem?_eq_some_iff.1 hy
    have := h p q h1 h2 hpq
    rw [e1, e2] at this
    exact this
  · intro h p q h1 h2 hpq
    exact h p q _ _ hpq (List.getElem?_eq_getElem h1) (List.getElem?_eq_getElem h2)
theorem SwR.start {l : List (Int × Int)} (h : SrtI l) (x : Int × Int) : SwR (l ++ [x]) l.length := by
  rw [srt_at] at h
  refine ⟨by simp, fun p q a b hpq hq ha hb => ?_⟩
  have hq2 := (List.getElem?_eq_some_iff.1 hb).1
  rw [List.length_append] at hq2
  simp at hq2
  rw [List.getElem?_append_left (by omega)] at ha hb
  exact h p q a b hpq ha hb
theorem SwR.fin {l : List (Int × Int)} {k : Nat} (h : SwR l k) (hf : k = 0 ∨ ∃ a b, l[k - 1]? = some a ∧ l[k]? = some b ∧ ¬ lexLt b a) : SrtI l := by
  rw [srt_at]
  intro p q x y hpq hx hy
  by_cases hq : q = k
  · subst hq
    rcases hf with e | ⟨a, b, ha, hb, hn⟩
    · omega
    · have e0 : b = y := Option.some.inj (hb.symm.trans hy)
      subst e0
      by_cases hp : p = q - 1
      · subst hp; rw [ha] at hx; cases hx; exact hn
      · have h1 := h.ord p (q - 1) x a (by omega) (by omega) hx ha
        intro e
        rcases lex_tri b a with e1 | e1 | e1
        · exact hn e1
        · subst e1; exact h1 e
        · exact h1 (lex_trans e1 e)
  · exact h.ord p q x y hpq hq hx hy
def swpI (l : List (Int × Int)) (k : Nat) (a b : Int × Int) : List (Int × Int) := (l.set k a).set (k - 1) b
theorem swp_len (l : List (Int × Int)) (k : Nat) (a b : Int × Int) : (swpI l k a b).length = l.length := by unfold swpI; simp
theorem swp_at {l : List (Int × Int)} {k : Nat} {a b : Int × Int} (hk : 0 < k) (hl : k < l.length) (q : Nat) : (swpI l k a b)[q]? = if q = k - 1 then some b else if q = k then some a else l[q]? := by
  unfold swpI
  rw [List.getElem?_set, List.getElem?_set, List.length_set]
  by_cases h1 : q = k - 1
  · rw [if_pos h1.symm, if_pos (by omega), if_pos h1]
  · rw [if_neg (Ne.symm h1), if_neg h1]
    by_cases h2 : q = k
    · rw [if_pos h2.symm, if_pos (by omega), if_pos h2]
    · rw [if_neg (Ne.symm h2), if_neg h2]
theorem SwR.step {l : List (Int × Int)} {k : Nat} {a b : Int × Int} (h : SwR l k) (hk : 0 < k) (ha : l[k - 1]? = some a) (hb : l[k]? = some b) (hlt : lexLt b a) : SwR (swpI l k a b) (k - 1) := by
  have hl := h.lt
  refine ⟨by rw [swp_len]; omega, fun p q x y hpq hq hx hy => ?_⟩
  rw [swp_at hk hl] at hx hy
  rw [if_neg hq] at hy
  by_cases h2 : q = k
  · rw [if_pos h2] at hy
    cases hy
    by_cases hp : p = k - 1
    · rw [if_pos hp] at hx
      cases hx
      exact fun e => lex_irrefl _ (lex_trans e hlt)
    · rw [if_neg hp, if_neg (by omega)] at hx
      exact h.ord p (k - 1) x a (by omega) (by omega) hx ha
  · rw [if_neg h2] at hy
    by_cases hp : p = k - 1
    · rw [if_pos hp] at hx
      cases hx
      exact h.ord k q b y (by omega) h2 hb hy
    · rw [if_neg hp] at hx
      by_cases hp2 : p = k
      · rw [if_pos hp2] at hx
        cases hx
        exact h.ord (k - 1) q a y (by omega) h2 ha hy
      · rw [if_neg hp2] at hx
        exact h.ord p q x y hpq h2 hx hy
theorem swp_perm {l : List (Int × Int)} {k : Nat} {a b : Int × Int} (hk : 0 < k) (ha : l[k - 1]? = some a) (hb : l[k]? = some b) : (swpI l k a b).Perm l := by
  obtain ⟨h1, e1⟩ := List.getElem?_eq_some_iff.1 ha
  obtain ⟨h2, e2⟩ := List.getElem?_eq_some_iff.1 hb
  unfold swpI
  rw [← e1, ← e2]
  exact List.set_set_perm h2 h1

end Go.Proofs.YtkkolefionbbcaaGreat
