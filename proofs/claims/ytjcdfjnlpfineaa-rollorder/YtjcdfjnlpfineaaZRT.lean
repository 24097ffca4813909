/-
  Rolls behind scripts; two Rolls in new memory.
-/
import Derived.Test.YtjcdfjnlpfineaaZRS
set_option linter.unusedSimpArgs false
set_option linter.unusedVariables false
namespace Go.Proofs.Ytjcdfjnlpfineaa
open Go.RowKit Go.Lib
variable {w W W' : World} {b b' : Nat} {s s' : St}

/-- two Rolls in new memory -/
structure K2 (w W : World) (b : Nat) (s : St) (b' : Nat) (s' : St) : Prop where
  one : KR w W b s
  two : KR w W b' s'
  ne : b ≠ b'
theorem K2.swap (h : K2 w W b s b' s') : K2 w W b' s' b s := ⟨h.two, h.one, h.ne.symm⟩
theorem K2.below (h : K2 w W b s b' s') (hb : Below W.heap.size W W') : K2 w W' b s b' s' := ⟨h.one.below hb, h.two.below hb, h.ne⟩
theorem K2.do (h : K2 w W b s b' s') (x : Stp) : Calls Try.prog 28 #[.pointer (some ⟨b, 0, none⟩), .agg #[.bool x.lv, .int .i64 x.site]] W fun e W' => e = .returned (.bool (doB s x)) ∧ K2 w W' b (doS s x) b' s' := (do_in h.one.rb h.one.gd x).mono fun e W' ⟨h1, h2, h3⟩ => by
  have hb := h3.below h.one.bel (fun i e => by have := h.one.lo; omega)
  exact ⟨h1, ⟨h2, h.one.gd.doS x, h.one.lo, hb⟩, ⟨h.two.rb.kp h3 h.ne.symm, h.two.gd, h.two.lo, hb⟩, h.ne⟩
theorem K2.same (h : K2 w W b s b' s) : Calls Try.prog 29 #[.pointer (some ⟨b, 0, none⟩), .pointer (some ⟨b', 0, none⟩)] W fun e W' => e = .returned (.bool true) ∧ K2 w W' b s b' s := (same_in h.one.rb h.one.gd h.two.rb h.two.gd rfl rfl).mono fun e W' ⟨h1, h2⟩ => ⟨h1, h.below h2⟩

/-- what is told of a word is filled in again -/
theorem orL_app (m : Wd) (l l' : List Int) : orL m (l ++ l') = orL (orL m l) l' := by unfold orL; rw [List.foldl_append]
theorem orL_lsN (m : Wd) (k : Nat) (hk : k ≤ 16) (i : Nat) : (orL 0#32 (lsN m k)).getLsbD i = (m.getLsbD i && decide (1 ≤ i ∧ i ≤ k)) := by
  induction k generalizing i with
  | zero =>
    rw [lsN_zero]
    have : decide (1 ≤ i ∧ i ≤ 0) = false := decide_eq_false (by omega)
    rw [this]
    simp [orL]
  | succ k ih =>
    rw [lsN_succ, orL_app]
    by_cases hb : m.getLsbD (k + 1) = true
    · rw [if_pos hb]
      show (orL 0#32 (lsN m k) ||| bitW ((k + 1 : Nat) : Int)).getLsbD i = _
      rw [or_at, ih (by omega) i]
      have hs : siteB ((k + 1 : Nat) : Int) = true := siteB_iff.2 (by omega)
      rw [hs, Int.toNat_natCast, Bool.true_and]
      by_cases e : i = k + 1
      · subst e; simp [hb]
      · have : decide (1 ≤ i ∧ i ≤ k + 1) = decide (1 ≤ i ∧ i ≤ k) := by congr 1; exact propext ⟨fun h => by omega, fun h => by omega⟩
        rw [this]
        simp [e]
    · rw [if_neg hb]
      show (orL 0#32 (lsN m k)).getLsbD i = _
      rw [ih (by omega) i]
      by_cases e : i = k + 1
      · subst e; simp [hb]
      · have : decide (1 ≤ i ∧ i ≤ k + 1) = decide (1 ≤ i ∧ i ≤ k) := by congr 1; exact propext ⟨fun h => by omega, fun h => by omega⟩
        rw [this]
theorem orL_lsW {m : Wd} (h : OkW m) : orL 0#32 (lsW m) = m := wd_ext fun i => by
  unfold lsW
  rw [orL_lsN m 16 (Nat.le_refl _) i]
  cases e : m.getLsbD i with
  | false => rfl
  | true => rw [decide_eq_true (h i e)]; rfl
theorem fillW_app : ∀ (l l' : List Int) (m q : Wd), fillW m l = some q → fillW m (l ++ l') = fillW q l'
  | [], l', m, q, h => by simp [fillW] at h; subst h; rfl
  | x :: l, l', m, q, h => by
    unfold fillW at h
    split at h
    · cases h
    · rename_i hn
      show (if uI (bitW x) ≤ uI m then none else fillW (m ||| bitW x) (l ++ l')) = _
      rw [if_neg hn]
      exact fillW_app l l' _ q h
/-- sites below k make a word below the bit of k -/
theorem low_lt {q : Wd} {k : Nat} (hk : k < 32) (h : ∀ i, q.getLsbD i = true → i < k) : uI q < uI (BitVec.twoPow 32 k) := by
  unfold uI
  have h1 : q.toNat < 2 ^ k := by
    apply Nat.lt_pow_two_of_testBit
    intro i hi
    rw [BitVec.testBit_toNat]
    cases e : q.getLsbD i with
    | false => rfl
    | true => have := h i e; omega
  rw [BitVec.toNat_twoPow, Nat.mod_eq_of_lt (Nat.pow_lt_pow_right (by omega) hk)]
  omega
theorem fill_lsN (m : Wd) (k : Nat) (hk : k ≤ 16) : fillW 0#32 (lsN m k) = some (orL 0#32 (lsN m k)) := by
  induction k with
  | zero => rfl
  | succ k ih =>
    rw [lsN_succ, fillW_app _ _ _ _ (ih (by omega)), orL_app]
    by_cases hb : m.getLsbD (k + 1) = true
    · rw [if_pos hb]
      unfold fillW
      have hs : siteB ((k + 1 : Nat) : Int) = true := siteB_iff.2 (by omega)
      have hlt : uI (orL 0#32 (lsN m k)) < uI (bitW ((k + 1 : Nat) : Int)) := by
        unfold bitW
        rw [if_pos hs, Int.toNat_natCast]
        refine low_lt (by omega) (fun i hi => ?_)
        rw [orL_lsN m k (by omega) i, Bool.and_eq_true, decide_eq_true_eq] at hi
        omega
      rw [if_neg (by omega)]
      rfl
    · rw [if_neg hb]; rfl
theorem fill_lsW {m : Wd} (h : OkW m) : fillW 0#32 (lsW m) = some m := by
  have := fill_lsN m 16 (Nat.le_refl _)
  rw [show lsN m 16 = lsW m from rfl, orL_lsW h] at this
  exact this
theorem err_back (h : Gd s) : errL (lsW s.j) (lsW s.l) s.e = 0 := by
  have hf := gd_form h
  unfold errL
  rw [fill_lsW h.oj, fill_lsW h.ol]
  simp only
  rw [if_neg (by omega), hf.1, if_pos rfl]
theorem load_back {p : Value} (h : Gd s) (hl : LoadA W b (lsW s.j) (lsW s.l) s.e p) : p = .pointer (some ⟨b, 0, none⟩) ∧ RB W b s := by
  rcases hl with ⟨hl, _⟩ | ⟨_, hp, J, L, h1, h2, h3, h4⟩
  · exact absurd (err_back h) hl
  · rw [fill_lsW h.oj] at h1
    rw [fill_lsW h.ol] at h2
    cases h1
    cases h2
    exact ⟨hp, h4⟩

end Go.Proofs.Ytjcdfjnlpfineaa
