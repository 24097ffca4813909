/-
  What a log keeps: each operation is the next of its site, and behind all that it depends on. Pure.
-/
import Derived.Test.YtehmbbnmjiojgaaZLK4
set_option linter.unusedSimpArgs false
set_option linter.unusedVariables false
namespace Go.Proofs.Ytehmbbnmjiojgaa
open Go.RowKit Go.Lib

theorem chk_TkI : ∀ (d acc : List (Int × Int)) (site : Int), TkI acc site → chkF site d = 0 → ∃ s', TkI (acc ++ d) s'
  | [], acc, site, h, _ => ⟨site, by simpa using h⟩
  | x :: d, acc, site, hI, h => by
    obtain ⟨x0, x1⟩ := x
    rw [chkF] at h
    by_cases h1 : 1 ≤ x0 ∧ x0 ≤ 16
    · rw [if_neg (by simpa using h1)] at h
      by_cases h2 : 1 ≤ x1 ∧ x1 ≤ 2147483647
      · rw [if_neg (by simpa using h2)] at h
        by_cases h3 : x0 ≤ site
        · rw [if_pos h3] at h; simp at h
        · rw [if_neg h3] at h
          obtain ⟨a, rfl⟩ : ∃ a : Nat, x0 = (a : Int) := ⟨x0.toNat, by omega⟩
          obtain ⟨b, rfl⟩ : ∃ b : Nat, x1 = (b : Int) := ⟨x1.toNat, by omega⟩
          have := chk_TkI d (acc ++ [((a : Int), (b : Int))]) a (hI.next (by omega) (by omega) (by omega) (by omega)) h
          simpa using this
      · rw [if_pos (by simpa using h2)] at h; simp at h
    · rw [if_pos (by simpa using h1)] at h; simp at h
theorem vec_of_chk {l : List (Int × Int)} (h : chk l = 0) : vec (sy l) = l := by
  obtain ⟨s, hI⟩ := chk_TkI l [] 0 TkI.none h
  have := hI.same
  simpa using this

/-- from a row of sites to another: each operation is the next of its site -/
def SQ : (Nat → Int) → List Opn → (Nat → Int) → Prop
  | s, [], t => s = t
  | s, o :: os, t => (1 ≤ o.ds ∧ o.ds ≤ 16) ∧ o.dq = s o.ds.toNat + 1 ∧ o.dq ≤ 2147483647 ∧ cov s (sy o.deps) = true ∧ SQ (put1 s o.ds.toNat o.dq) os t
theorem SQ.good : ∀ {os : List Opn} {s t : Nat → Int}, SQ s os t → Good s → Good t
  | [], s, t, h, g => by cases h; exact g
  | o :: os, s, t, ⟨h1, h2, h3, _, h⟩, g => SQ.good h (g.put (by omega) (by omega) (by have := g.lo o.ds.toNat; omega) h3)
theorem SQ.le : ∀ {os : List Opn} {s t : Nat → Int}, SQ s os t → ∀ i, s i ≤ t i
  | [], s, t, h, i => by cases h; exact Int.le_refl _
  | o :: os, s, t, ⟨h1, h2, h3, _, h⟩, i => by
    have := SQ.le h i
    unfold put1 at this
    split at this
    · rename_i e; subst e; omega
    · exact this
theorem SQ.sum : ∀ {os : List Opn} {s t : Nat → Int}, SQ s os t → sum t = sum s + (os.length : Nat)
  | [], s, t, h => by cases h; simp
  | o :: os, s, t, ⟨h1, h2, h3, _, h⟩ => by
    have := SQ.sum h
    unfold Go.Proofs.Ytehmbbnmjiojgaa.sum at this ⊢
    rw [sumN_put, if_pos (by omega)] at this
    simp only [List.length_cons]
    push_cast
    omega
theorem SQ.mem : ∀ {os : List Opn} {s t : Nat → Int}, SQ s os t → ∀ o ∈ os, (1 ≤ o.ds ∧ o.ds ≤ 16) ∧ s o.ds.toNat < o.dq ∧ o.dq ≤ t o.ds.toNat
  | [], s, t, h, o, ho => by cases ho
  | x :: os, s, t, ⟨h1, h2, h3, _, h⟩, o, ho => by
    rcases List.mem_cons.1 ho with rfl | ho
    · have := SQ.le h o.ds.toNat
      rw [put1_self] at this
      exact ⟨h1, by omega, this⟩
    · obtain ⟨k1, k2, k3⟩ := SQ.mem h o ho
      refine ⟨k1, ?_, k3⟩
      unfold put1 at k2
      split at k2
      · rename_i e; rw [e] ; omega
      · exact k2
theorem SQ.snoc : ∀ {os : List Opn} {s t : Nat → Int} {o : Opn}, SQ s os t → (1 ≤ o.ds ∧ o.ds ≤ 16) → o.dq = t o.ds.toNat + 1 → o.dq ≤ 2147483647 → cov t (sy o.deps) = true → SQ s (os ++ [o]) (put1 t o.ds.toNat o.dq)
  | [], s, t, o, h, h1, h2, h3, h4 => by cases h; exact ⟨h1, h2, h3, h4, rfl⟩
  | x :: os, s, t, o, ⟨k1, k2, k3, k4, k⟩, h1, h2, h3, h4 => ⟨k1, k2, k3, k4, SQ.snoc k h1 h2 h3 h4⟩
theorem has_site {l : List (Int × Int)} {a b : Int} (h : 1 ≤ a ∧ a ≤ 16) (hb : 1 ≤ b) : hasV l (a, b) = decide (b ≤ sy l a.toNat) := by
  unfold hasV getV
  simp only [if_pos h]
  by_cases h2 : b ≤ sy l a.toNat <;> simp [h2, hb]
theorem prL_cons (l : List (Int × Int)) (x : Bool) (o : Opn) (os : List Opn) : prL l x (o :: os) = if hasV l (o.ds, o.dq) = x then o :: prL l x os else prL l x os := by
  unfold prL
  rw [List.filter_cons]
  by_cases h : hasV l (o.ds, o.dq) = x <;> simp [h]
theorem mrg_put_hi {s t : Nat → Int} {i : Nat} {x : Int} (h : s i ≤ x) (h2 : x ≤ t i) : mrg (put1 s i x) t = mrg s t := by
  funext j
  unfold mrg put1
  split
  · rename_i e; subst e; omega
  · rfl
theorem mrg_put_lo {s t : Nat → Int} {i : Nat} {x : Int} (h2 : t i ≤ x) : mrg (put1 s i x) t = put1 (mrg s t) i x := by
  funext j
  unfold mrg put1
  split
  · rename_i e; subst e; omega
  · rfl
theorem cov_mrg {s t u : Nat → Int} (h : cov s u = true) : cov (mrg s t) u = true := by
  unfold cov at h ⊢
  rw [List.all_eq_true] at h ⊢
  intro i hi
  have := h i hi
  simp only [decide_eq_true_eq] at this ⊢
  unfold mrg
  omega
/-- what a list has is taken out: the rest goes on from both -/
theorem SQ.cut (l : List (Int × Int)) : ∀ {os : List Opn} {s t : Nat → Int}, Good s → SQ s os t → SQ (mrg s (sy l)) (prL l false os) (mrg t (sy l))
  | [], s, t, g, h => by cases h; rfl
  | o :: os, s, t, g, ⟨h1, h2, h3, h4, h⟩ => by
    have gl := g.lo o.ds.toNat
    have ih := SQ.cut l (g.put (by omega) (by omega) (by omega) h3) h
    rw [prL_cons, has_site h1 (by omega)]
    by_cases hh : o.dq ≤ sy l o.ds.toNat
    · rw [decide_eq_true hh, if_neg (by simp)]
      rwa [mrg_put_hi (by omega) hh] at ih
    · rw [decide_eq_false hh, if_pos rfl]
      rw [mrg_put_lo (by omega)] at ih
      refine ⟨h1, ?_, h3, cov_mrg h4, ih⟩
      unfold mrg
      omega
theorem mrg_of_le {s t : Nat → Int} (h : ∀ i, t i ≤ s i) : mrg s t = s := by
  funext i
  unfold mrg
  have := h i
  omega
theorem mrg_comm (s t : Nat → Int) : mrg s t = mrg t s := by
  funext i
  unfold mrg
  omega

/-- what holds of a log behind any calls -/
structure ST (base hv : List (Int × Int)) (os : List Opn) : Prop where
  nb : chk base = 0
  nh : chk hv = 0
  sq : SQ (sy base) os (sy hv)
theorem ST.new {base : List (Int × Int)} (h : chk base = 0) : ST base base [] := ⟨h, h, rfl⟩
theorem ST.add {base hv : List (Int × Int)} {os : List Opn} (h : ST base hv os) (o : Opn) : ST base (if addE hv o = 0 then (addV hv (o.ds, o.dq)).1 else hv) (if addE hv o = 0 then os ++ [o] else os) := by
  by_cases he : addE hv o = 0
  · rw [if_pos he, if_pos he]
    unfold addE at he
    split at he
    · split at he
      · rename_i hc
        unfold addV at he ⊢
        split at he
        · simp at he
        · rename_i h1
          rw [if_neg h1]
          simp only at he h1 ⊢
          split at he
          · simp at he
          · rename_i h2
            rw [if_neg h2]
            split at he
            · simp at he
            · rename_i h3
              rw [if_neg h3]
              have g := (sy_good hv).put (i := o.ds.toNat) (x := o.dq) (by omega) (by omega) (by omega) (by omega)
              refine ⟨h.nb, chk_vec g, ?_⟩
              show SQ _ _ (sy (vec (put1 (sy hv) o.ds.toNat o.dq)))
              rw [sy_vec g]
              exact h.sq.snoc (by omega) (by omega) (by omega) hc
      · simp at he
    · simp at he
  · rw [if_neg he, if_neg he]; exact h
theorem ST.cut {base hv : List (Int × Int)} {os : List Opn} (h : ST base hv os) (l : List (Int × Int)) : ST (if cutE hv l = 0 then vec (mrg (sy base) (sy l)) else base) hv (if cutE hv l = 0 then prL l false os else os) := by
  by_cases he : cutE hv l = 0
  · rw [if_pos he, if_pos he]
    have gm := (sy_good base).mrg (sy_good l)
    have hc : cov (sy hv) (sy l) = true := by
      unfold cutE at he
      split at he
      · contradiction
      · split at he
        · assumption
        · simp at he
    refine ⟨chk_vec gm, h.nh, ?_⟩
    rw [sy_vec gm]
    have := h.sq.cut l (sy_good base)
    rwa [mrg_of_le ((cov_iff (sy_good hv) (sy_good l)).1 hc)] at this
  · rw [if_neg he, if_neg he]; exact h
theorem ST.cov {base hv : List (Int × Int)} {os : List Opn} (h : ST base hv os) : cov (sy hv) (sy base) = true := (cov_iff (sy_good hv) (sy_good base)).2 h.sq.le
theorem ST.byd_base {base hv : List (Int × Int)} {os : List Opn} (h : ST base hv os) : bynd base os = os := by
  unfold bynd prL
  rw [if_pos h.nb, List.filter_eq_self]
  intro o ho
  obtain ⟨h1, h2, h3⟩ := h.sq.mem o ho
  have := (sy_good base).lo o.ds.toNat
  rw [has_site h1 (by omega), decide_eq_false (by omega)]
  rfl
theorem ST.byd_have {base hv : List (Int × Int)} {os : List Opn} (h : ST base hv os) : bynd hv os = [] := by
  unfold bynd prL
  rw [if_pos h.nh, List.filter_eq_nil_iff]
  intro o ho
  obtain ⟨h1, h2, h3⟩ := h.sq.mem o ho
  have := (sy_good base).lo o.ds.toNat
  rw [has_site h1 (by omega), decide_eq_true (by omega)]
  simp
theorem cut_len (l hv : List (Int × Int)) (os : List Opn) : (if cutE hv l = 0 then prL l false os else os).length ≤ os.length := by
  split
  · exact List.length_filter_le _ _
  · exact Nat.le_refl _
theorem add_len (hv : List (Int × Int)) (o : Opn) (os : List Opn) : (if addE hv o = 0 then os ++ [o] else os).length ≤ os.length + 1 := by
  split <;> simp

end Go.Proofs.Ytehmbbnmjiojgaa
