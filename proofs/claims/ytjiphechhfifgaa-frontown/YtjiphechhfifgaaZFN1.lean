/-
  What is done; what usable rows mean.
-/
import Derived.Test.YtjiphechhfifgaaZXK
import Derived.Test.YtjiphechhfifgaaZXU
set_option linter.unusedSimpArgs false
set_option linter.unusedVariables false
namespace Go.Proofs.Ytjiphechhfifgaa
open Go.RowKit Go.Lib

def doS (s : Stp) (S : StF) : StF := if s.kind = 1 then hearS S s.site s.vec else if s.kind = 2 then setS S s.vec else S
def stA (s : Stp) : Value := .agg #[.int .i64 s.kind, .int .i64 s.site, s.vv, s.vm]
set_option maxRecDepth 100000 in
set_option maxHeartbeats 4000000 in
/-- one call, wherever the Front is -/
theorem do_any {W : World} {b n : Nat} {S : StF} (s : Stp) (hs : StW W s) (R : StF → World → Prop) (hb0 : ∀ T W1 W2, R T W1 → Below W1.heap.size W1 W2 → R T W2) (h0 : R S W)
    (hH : ∀ W1, Below W.heap.size W W1 → Calls Try.prog 17 #[.pointer (some ⟨b, 0, none⟩), .int .i64 s.site, s.vv] W1 fun e W' => e = .returned (.int .i64 (hearE s.site s.vec)) ∧ R (hearS S s.site s.vec) W')
    (hS : ∀ W1, Below W.heap.size W W1 → Calls Try.prog 15 #[.pointer (some ⟨b, 0, none⟩), s.vv] W1 fun e W' => e = .returned (.tuple #[]) ∧ R (setS S s.vec) W') :
    Calls Try.prog 20 #[.pointer (some ⟨b, 0, none⟩), stA s] W fun e W' => e = .returned (.tuple #[]) ∧ R (doS s S) W' := by
  obtain ⟨av, cv, hv⟩ := hs.fv
  obtain ⟨am, cm, hm⟩ := hs.fm
  obtain ⟨kind, site, vl, ml, vv, vm⟩ := s
  simp only at hv hm hH hS
  subst hv hm
  unfold stA doS
  simp only
  have HH := hide hH
  have HS := hide hS
  have H0 := hide (fun W1 => hb0 S W W1 h0)
  obtain ⟨X, hX⟩ : ∃ X, W.alloc (.cells #[.int .i64 kind, .int .i64 site, .slice av vl.length cv, .slice am ml.length cm] 34) = X := ⟨_, rfl⟩
  have xX : Bx X W.heap.size 34 #[.int .i64 kind, .int .i64 site, .slice av vl.length cv, .slice am ml.length cm] := by rw [← hX]; exact Bx.new W _ _
  have BX := hide (show Below W.heap.size W X by rw [← hX]; exact ballc (Below.refl _ _) _)
  have c0 := xX.cell 0 _ rfl
  have c1 := xX.cell 1 _ rfl
  have c2 := xX.cell 2 _ rfl
  have xl := xX.lt
  clear hH hS h0 hb0 hs xX
  by_cases k1 : kind = 1
  · subst k1
    rw [if_pos rfl]
    obtain ⟨T, hT⟩ : ∃ T, hearS S site vl = T := ⟨_, rfl⟩
    rw [hT] at HH ⊢
    clear hT
    go_enter Try.func20, Try.ntmps20
    go_wp2_with fail
    refine (unhide HH _ (unhide BX)).mono ?_
    rintro e W1 ⟨rfl, hr⟩
    replace hr := hide hr
    clear c0 c1 c2
    go_wp2
    refine bodyPost_end (results_none rfl _ _ _) rfl ?_
    exact ⟨rfl, unhide hr⟩
  · rw [if_neg k1]
    have k1' : (kind == 1) = false := by simpa using k1
    by_cases k2 : kind = 2
    · subst k2
      rw [if_pos rfl]
      obtain ⟨T, hT⟩ : ∃ T, setS S vl = T := ⟨_, rfl⟩
      rw [hT] at HS ⊢
      clear hT
      go_enter Try.func20, Try.ntmps20
      go_wp2_with fail
      refine (unhide HS _ (unhide BX)).mono ?_
      rintro e W1 ⟨rfl, hr⟩
      replace hr := hide hr
      clear c0 c1 c2
      go_wp2
      refine bodyPost_end (results_none rfl _ _ _) rfl ?_
      exact ⟨rfl, unhide hr⟩
    · rw [if_neg k2]
      have k2' : (kind == 2) = false := by simpa using k2
      have R0 := hide (unhide H0 X (unhide BX))
      go_enter Try.func20, Try.ntmps20
      go_wp2
      refine bodyPost_end (results_none rfl _ _ _) rfl ?_
      exact ⟨rfl, unhide R0⟩

theorem Kdo_in {Q : Nat → Prop} {w W : World} {b n : Nat} {S : StF} (h : KF Q w W b n S) (hn : n ≤ 999999) (s : Stp) (hs : StW w s) (hl : s.vec.length ≤ 20000) :
    Calls Try.prog 20 #[.pointer (some ⟨b, 0, none⟩), stA s] W fun e W' => e = .returned (.tuple #[]) ∧ (KF Q w W' b (n + 1) (doS s S) ∧ Kp (fun i => ¬ Q i) W W') := by
  have mor : ∀ {T W1}, KF Q w W1 b n T → KF Q w W1 b (n + 1) T := fun {T W1} h => by
    obtain ⟨P, h1, h2⟩ := h
    exact ⟨P, h1.more (by omega), h2⟩
  refine do_any (n := n) s (hs.below h.bel) (fun T W1 => KF Q w W1 b (n + 1) T ∧ Kp (fun i => ¬ Q i) W W1) (fun T W1 W2 h hb => ⟨h.1.below hb, h.2.trans (M := fun _ => False) (Kp.of_below hb) (fun _ h => h.elim)⟩) ⟨mor h, Kp.refl _ _⟩ (fun W1 hb => ?_) (fun W1 hb => ?_)
  · refine (KHear_in (h.below hb) hn s.site hs.sin s.vv s.vec ((hs.rv.below h.bel).below hb) (by omega) (fun i hi => .inr (rb_lt hs.rv hi))).mono ?_
    rintro e W' ⟨rfl, h1, h2⟩
    exact ⟨rfl, h1, (Kp.of_below hb).trans h2 (fun i h => .inl h)⟩
  · refine (KSettle_in (h.below hb) s.vv s.vec ((hs.rv.below h.bel).below hb) (by omega)).mono ?_
    rintro e W' ⟨rfl, h1, h2⟩
    exact ⟨rfl, mor h1, (Kp.of_below hb).trans h2 (fun i h => .inl h)⟩

/-- rows cover their usable ones; those that are no sites have none -/
structure MI (S : StF) : Prop where
  le : ∀ k i, usR S k i ≤ hdR S k i
  no : ∀ k, S k = none → usR S k = fun _ => 0
theorem MI.start : MI (fun _ => none) := ⟨fun _ _ => Int.le_refl _, fun _ _ => rfl⟩
theorem hdR_setS (S : StF) (l : List (Int × Int)) (k : Int) : hdR (setS S l) k = hdR S k := by
  unfold hdR setS
  cases S k with
  | none => rfl
  | some p => simp only; split <;> rfl
theorem some_setS (S : StF) (l : List (Int × Int)) (k : Int) : (setS S l k).isSome = (S k).isSome := by
  unfold setS
  cases S k with
  | none => rfl
  | some p => simp only; split <;> rfl
theorem usR_setS (S : StF) (l : List (Int × Int)) (k : Int) : usR (setS S l) k = if (S k).isSome = true ∧ chk l = 0 ∧ cov (sy l) (hdR S k) = true then hdR S k else usR S k := by
  unfold usR setS hdR
  cases S k with
  | none => simp
  | some p =>
    simp only [Option.isSome_some, true_and, Option.getD_some]
    split <;> rfl
theorem usR_hearS (S : StF) (k : Int) (l : List (Int × Int)) (j : Int) : usR (hearS S k l) j = usR S j := by
  by_cases h : hearE k l = 0
  · rw [hearS_is h]
    unfold usR putS
    by_cases e : j = k
    · subst e; rw [if_pos rfl]; rfl
    · rw [if_neg e]
  · rw [hearS_no h]
theorem MI.hear {S : StF} (h : MI S) (k : Int) (l : List (Int × Int)) : MI (hearS S k l) := by
  by_cases h0 : hearE k l = 0
  · refine ⟨fun j i => ?_, fun j hj => ?_⟩
    · rw [usR_hearS]
      rw [hearS_is h0]
      unfold hdR putS
      by_cases e : j = k
      · subst e
        rw [if_pos rfl]
        have := h.le j i
        show usR S j i ≤ max (hdR S j i) (sy l i)
        omega
      · rw [if_neg e]; exact h.le j i
    · rw [usR_hearS]
      refine h.no j ?_
      rw [hearS_is h0] at hj
      unfold putS at hj
      split at hj
      · cases hj
      · exact hj
  · rw [hearS_no h0]; exact h
theorem MI.settle {S : StF} (h : MI S) (l : List (Int × Int)) : MI (setS S l) := by
  refine ⟨fun k i => ?_, fun k hk => ?_⟩
  · rw [usR_setS, hdR_setS]
    split
    · exact Int.le_refl _
    · exact h.le k i
  · have : (S k).isSome = false := by rw [← some_setS S l k, hk]; rfl
    rw [usR_setS, if_neg (by rw [this]; simp)]
    exact h.no k (by cases e : S k with
      | none => rfl
      | some p => rw [e] at this; cases this)
theorem MI.do {S : StF} (h : MI S) (s : Stp) : MI (doS s S) := by
  unfold doS
  split
  · exact h.hear _ _
  · split
    · exact h.settle _
    · exact h
/-- a usable row never falls -/
theorem us_rise {S : StF} (h : MI S) (s : Stp) (k : Int) (i : Nat) : usR S k i ≤ usR (doS s S) k i := by
  unfold doS
  split
  · rw [usR_hearS]; exact Int.le_refl _
  · split
    · rw [usR_setS]
      split
      · exact h.le k i
      · exact Int.le_refl _
    · exact Int.le_refl _
/-- what makes a row usable -/
theorem us_change {S : StF} (s : Stp) (k : Int) (h : usR (doS s S) k ≠ usR S k) : s.kind = 2 ∧ usR (doS s S) k = hdR (doS s S) k ∧ cov (sy s.vec) (usR (doS s S) k) = true := by
  unfold doS at h ⊢
  by_cases k1 : s.kind = 1
  · rw [if_pos k1, usR_hearS] at h; exact absurd rfl h
  · rw [if_neg k1] at h ⊢
    by_cases k2 : s.kind = 2
    · rw [if_pos k2] at h ⊢
      rw [usR_setS] at h ⊢
      split at h
      · rename_i hc
        rw [if_pos hc, hdR_setS]
        exact ⟨k2, rfl, hc.2.2⟩
      · exact absurd rfl h
    · rw [if_neg k2] at h; exact absurd rfl h
theorem us_settled {S : StF} (s : Stp) (k : Int) (h2 : s.kind = 2) (hc : chk s.vec = 0) (hs : (doS s S k).isSome = true) (hv : cov (sy s.vec) (hdR (doS s S) k) = true) : usR (doS s S) k = hdR (doS s S) k := by
  unfold doS at hs hv ⊢
  rw [if_neg (by omega), if_pos h2] at hs hv ⊢
  rw [some_setS] at hs
  rw [hdR_setS] at hv ⊢
  rw [usR_setS, if_pos ⟨hs, hc, hv⟩]

end Go.Proofs.Ytjiphechhfifgaa
