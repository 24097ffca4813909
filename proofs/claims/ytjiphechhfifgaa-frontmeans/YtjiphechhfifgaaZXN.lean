/-
  What is done; what usable rows mean.
-/
import Derived.Test.YtjiphechhfifgaaZXK
import Derived.Test.YtjiphechhfifgaaZXU
import Derived.Deep.RegionLaw

set_option linter.unusedSimpArgs false
set_option linter.unusedVariables false
namespace Go.Proofs.Ytjiphechhfifgaa
open Go.RowKit Go.Lib

def doS (s : Stp) (S : StF) : StF := if s.kind = 1 then hearS S s.site s.vec else if s.kind = 2 then setS S s.vec else S
def stA (s : Stp) : Value := .agg #[.int .i64 s.kind, .int .i64 s.site, s.vv, s.vm]
set_option maxRecDepth 100000 in
set_option maxHeartbeats 4000000 in
/-- one call, wherever the Front is -/
theorem do_any {W : World} {b n : Nat} {S : StF} (s : Stp) (hs : StW W s) (R : StF → World → Prop) (hb0 : ∀ T W1 W2, R T W1 → Below W1.heap.size W1 W2 → R T W2) (h0 : R S W)
    (hH : ∀ W1, Below W.heap.size W W1 → Calls Try.prog 17 #[.pointer (some ⟨b, 0, none⟩), .int .i64 s.site, s.vv] W1 fun e W' => e = .returned (.int .i64 (hearE s.site s.vec)) ∧ R (hearS S s.site s.vec) W')
    (hS : ∀ W1, Below W.heap.size W W1 → Calls Try.prog 15 #[.pointer (some ⟨b, 0, none⟩), s.vv] W1 fun e W' => e = .returned (.tuple #[]) ∧ R (setS S s.vec) W') :
    Calls Try.prog 20 #[.pointer (some ⟨b, 0, none⟩), stA s] W fun e W' => e = .returned (.tuple #[]) ∧ R (doS s S) W' := by
  obtain ⟨av, cv, hv⟩ := hs.fv
  obtain ⟨am, cm, hm⟩ := hs.fm
  obtain ⟨kind, site, vl, ml, vv, vm⟩ := s
  simp only at hv hm hH hS
  subst hv hm
  unfold stA doS
  simp only
  have HH := hide hH
  have HS := hide hS
  have H0 := hide (fun W1 => hb0 S W W1 h0)
  obtain ⟨X, hX⟩ : ∃ X, W.alloc (.cells #[.int .i64 kind, .int .i64 site, .slice av vl.length cv, .slice am ml.length cm] 34) = X := ⟨_, rfl⟩
  have xX : Bx X W.heap.size 34 #[.int .i64 kind, .int .i64 site, .slice av vl.length cv, .slice am ml.length cm] := by rw [← hX]; exact Bx.new W _ _
  have BX := hide (show Below W.heap.size W X by rw [← hX]; exact ballc (Below.refl _ _) _)
  have c0 := xX.cell 0 _ rfl
  have c1 := xX.cell 1 _ rfl
  have c2 := xX.cell 2 _ rfl
  have xl := xX.lt
  clear hH hS h0 hb0 hs xX
  by_cases k1 : kind = 1
  · subst k1
    rw [if_pos rfl]
    obtain ⟨T, hT⟩ : ∃ T, hearS S site vl = T := ⟨_, rfl⟩
    rw [hT] at HH ⊢
    clear hT
    go_enter Try.func20, Try.ntmps20
    go_wp2_with fail
    refine (unhide HH _ (unhide BX)).mono ?_
    rintro e W1 ⟨rfl, hr⟩
    replace hr := hide hr
    clear c0 c1 c2
    go_wp2
    refine bodyPost_end (results_none rfl _ _ _) rfl ?_
    exact ⟨rfl, unhide hr⟩
  · rw [if_neg k1]
    have k1' : (kind == 1) = false := by simpa using k1
    by_cases k2 : kind = 2
    · subst k2
      rw [if_pos rfl]
      obtain ⟨T, hT⟩ : ∃ T, setS S vl = T := ⟨_, rfl⟩
      rw [hT] at HS ⊢
      clear hT
      go_enter Try.func20, Try.ntmps20
      go_wp2_with fail
      refine (unhide HS _ (unhide BX)).mono ?_
      rintro e W1 ⟨rfl, hr⟩
      replace hr := hide hr
      clear c0 c1 c2
      go_wp2
      refine bodyPost_end (results_none rfl _ _ _) rfl ?_
      exact ⟨rfl, unhide hr⟩
    · rw [if_neg k2]
      have k2' : (kind == 2) = false := by simpa using k2
      have R0 := hide (unhide H0 X (unhide BX))
      go_enter Try.func20, Try.ntmps20
      go_wp2
      refine bodyPost_end (results_none rfl _ _ _) rfl ?_
      exact ⟨rfl, unhide R0⟩

theorem Kdo_in {Q : Nat → Prop} {w W : World} {b n : Nat} {S : StF} (h : KF Q w W b n S) (hn : n ≤ 999999) (s : Stp) (hs : StW w s) (hl : s.vec.length ≤ 20000) :
    Calls Try.prog 20 #[.pointer (some ⟨b, 0, none⟩), stA s] W fun e W' => e = .returned (.tuple #[]) ∧ (KF Q w W' b (n + 1) (doS s S) ∧ Kp (fun i => ¬ Q i) W W') := by
  have mor : ∀ {T W1}, KF Q w W1 b n T → KF Q w W1 b (n + 1) T := fun {T W1} h => by
    obtain ⟨P, h1, h2⟩ := h
    exact ⟨P, h1.more (by omega), h2⟩
  refine do_any (n := n) s (hs.below h.bel) (fun T W1 => KF Q w W1 b (n + 1) T ∧ Kp (fun i => ¬ Q i) W W1) (fun T W1 W2 h hb => ⟨h.1.below hb, h.2.trans (M := fun _ => False) (Kp.of_below hb) (fun _ h => h.elim)⟩) ⟨mor h, Kp.refl _ _⟩ (fun W1 hb => ?_) (fun W1 hb => ?_)
  · refine (KHear_in (h.below hb) hn s.site hs.sin s.vv s.vec ((hs.rv.below h.bel).below hb) (by omega) (fun i hi => .inr (rb_lt hs.rv hi))).mono ?_
    rintro e W' ⟨rfl, h1, h2⟩
    exact ⟨rfl, h1, (Kp.of_below hb).trans h2 (fun i h => .inl h)⟩
  · refine (KSettle_in (h.below hb) s.vv s.vec ((hs.rv.below h.bel).below hb) (by omega)).mono ?_
    rintro e W' ⟨rfl, h1, h2⟩
    exact ⟨rfl, mor h1, (Kp.of_below hb).trans h2 (fun i h => .inl h)⟩

/-- rows cover their usable ones; those that are no sites have none -/
structure MI (S : StF) : Prop where
  le : ∀ k i, usR S k i ≤ hdR S k i
  no : ∀ k, S k = none → usR S k = fun _ => 0
theorem MI.start : MI (fun _ => none) := ⟨fun _ _ => Int.le_refl _, fun _ _ => rfl⟩
theorem hdR_setS (S : StF) (l : List (Int × Int)) (k : Int) : hdR (setS S l) k = hdR S k := by
  unfold hdR setS
  cases S k with
  | none => rfl
  | some p => simp only; split <;> rfl
theorem some_setS (S : StF) (l : List (Int × Int)) (k : Int) : (setS S l k).isSome = (S k).isSome := by
  unfold setS
  cases S k with
  | none => rfl
  | some p => simp only; split <;> rfl
theorem usR_setS (S : StF) (l : List (Int × Int)) (k : Int) : usR (setS S l) k = if (S k).isSome = true ∧ chk l = 0 ∧ cov (sy l) (hdR S k) = true then hdR S k else usR S k := by
  unfold usR setS hdR
  cases S k with
  | none => simp
  | some p =>
    simp only [Option.isSome_some, true_and, Option.getD_some]
    split <;> rfl
theorem usR_hearS (S : StF) (k : Int) (l : List (Int × Int)) (j : Int) : usR (hearS S k l) j = usR S j := by
  by_cases h : hearE k l = 0
  · rw [hearS_is h]
    unfold usR putS
    by_cases e : j = k
    · subst e; rw [if_pos rfl]; rfl
    · rw [if_neg e]
  · rw [hearS_no h]
theorem MI.hear {S : StF} (h : MI S) (k : Int) (l : List (Int × Int)) : MI (hearS S k l) := by
  by_cases h0 : hearE k l = 0
  · refine ⟨fun j i => ?_, fun j hj => ?_⟩
    · rw [usR_hearS]
      rw [hearS_is h0]
      unfold hdR putS
      by_cases e : j = k
      · subst e
        rw [if_pos rfl]
        have := h.le j i
        show usR S j i ≤ max (hdR S j i) (sy l i)
        omega
      · rw [if_neg e]; exact h.le j i
    · rw [usR_hearS]
      refine h.no j ?_
      rw [hearS_is h0] at hj
      unfold putS at hj
      split at hj
      · cases hj
      · exact hj
  · rw [hearS_no h0]; exact h
theorem MI.settle {S : StF} (h : MI S) (l : List (Int × Int)) : MI (setS S l) := by
  refine ⟨fun k i => ?_, fun k hk => ?_⟩
  · rw [usR_setS, hdR_setS]
    split
    · exact Int.le_refl _
    · exact h.le k i
  · have : (S k).isSome = false := by rw [← some_setS S l k, hk]; rfl
    rw [usR_setS, if_neg (by rw [this]; simp)]
    exact h.no k (by cases e : S k with
      | none => rfl
      | some p => rw [e] at this; cases this)
theorem MI.do {S : StF} (h : MI S) (s : Stp) : MI (doS s S) := by
  unfold doS
  split
  · exact h.hear _ _
  · split
    · exact h.settle _
    · exact h
/-- a usable row never falls -/
theorem us_rise {S : StF} (h : MI S) (s : Stp) (k : Int) (i : Nat) : usR S k i ≤ usR (doS s S) k i := by
  unfold doS
  split
  · rw [usR_hearS]; exact Int.le_refl _
  · split
    · rw [usR_setS]
      split
      · exact h.le k i
      · exact Int.le_refl _
    · exact Int.le_refl _
/-- what makes a row usable -/
theorem us_change {S : StF} (s : Stp) (k : Int) (h : usR (doS s S) k ≠ usR S k) : s.kind = 2 ∧ usR (doS s S) k = hdR (doS s S) k ∧ cov (sy s.vec) (usR (doS s S) k) = true := by
  unfold doS at h ⊢
  by_cases k1 : s.kind = 1
  · rw [if_pos k1, usR_hearS] at h; exact absurd rfl h
  · rw [if_neg k1] at h ⊢
    by_cases k2 : s.kind = 2
    · rw [if_pos k2] at h ⊢
      rw [usR_setS] at h ⊢
      split at h
      · rename_i hc
        rw [if_pos hc, hdR_setS]
        exact ⟨k2, rfl, hc.2.2⟩
      · exact absurd rfl h
    · rw [if_neg k2] at h; exact absurd rfl h
theorem us_settled {S : StF} (s : Stp) (k : Int) (h2 : s.kind = 2) (hc : chk s.vec = 0) (hs : (doS s S k).isSome = true) (hv : cov (sy s.vec) (hdR (doS s S) k) = true) : usR (doS s S) k = hdR (doS s S) k := by
  unfold doS at hs hv ⊢
  rw [if_neg (by omega), if_pos h2] at hs hv ⊢
  rw [some_setS] at hs
  rw [hdR_setS] at hv ⊢
  rw [usR_setS, if_pos ⟨hs, hc, hv⟩]

end Go.Proofs.Ytjiphechhfifgaa

/-
  The law's row of vectors; members, wider.
-/
set_option linter.unusedSimpArgs false
set_option linter.unusedVariables false
namespace Go.Proofs.Ytjiphechhfifgaa
open Go.RowKit Go.Lib

/-- seventeen vectors -/
def arrV (vs : Nat → Value) : Array Value := ((List.range 17).map vs).toArray
theorem arrV_size (vs : Nat → Value) : (arrV vs).size = 17 := by simp [arrV]
theorem arrV_get (vs : Nat → Value) (i : Nat) (h : i < 17) : (arrV vs)[i]? = some (vs i) := by simp [arrV, h]
theorem arrV_set (vs : Nat → Value) (i : Nat) (x : Value) (h : i < 17) : (arrV vs).setIfInBounds i x = arrV (fun j => if j = i then x else vs j) := by
  apply Array.ext
  · simp [arrV]
  · intro j h1 h2
    simp [arrV] at h2
    simp only [Array.getElem_setIfInBounds, arrV]
    by_cases hj : j = i
    · subst hj; simp
    · simp [hj, Ne.symm hj]
/-- what was: of each site the usable row, in memory that is told apart -/
structure WAS (Q : Nat → Prop) (w W : World) (bw : Nat) (vs : Nat → Value) (U : Nat → Nat → Int) : Prop where
  box : Bx W bw 47 (arrV vs)
  row : ∀ k, k < 17 → OwD W w.heap.size (vs k) (vec (U k))
  qb : Q bw
  qk : ∀ k, k < 17 → ∀ i, (vs k).ownBlock = some i → Q i
theorem WAS.kp {Q : Nat → Prop} {w W W' : World} {bw : Nat} {vs : Nat → Value} {U : Nat → Nat → Int} (h : WAS Q w W bw vs U) (k : Kp (fun i => ¬ Q i) W W') : WAS Q w W' bw vs U :=
  ⟨h.box.kp k (fun e => e h.qb), fun j hj => owd_kp (h.row j hj) k (fun i hi e => e (h.qk j hj i hi)), h.qb, h.qk⟩
theorem WAS.below {Q : Nat → Prop} {w W W' : World} {bw : Nat} {vs : Nat → Value} {U : Nat → Nat → Int} (h : WAS Q w W bw vs U) (hb : Below W.heap.size W W') : WAS Q w W' bw vs U := h.kp (Kp.of_below hb)
theorem WAS.mono {Q Q' : Nat → Prop} {w W : World} {bw : Nat} {vs : Nat → Value} {U : Nat → Nat → Int} (h : WAS Q w W bw vs U) (hq : ∀ i, Q i → Q' i) : WAS Q' w W bw vs U := ⟨h.box, h.row, hq _ h.qb, fun k hk i hi => hq _ (h.qk k hk i hi)⟩
/-- was[n] = u -/
theorem WAS.set {Q : Nat → Prop} {w W : World} {bw : Nat} {vs : Nat → Value} {U : Nat → Nat → Int} (h : WAS Q w W bw vs U) (n : Nat) (hn : n < 17) (u : Value) (s : Nat → Int) (hu : OwD W w.heap.size u (vec s)) (hq : ∀ i, u.ownBlock = some i → Q i) (hne : ∀ v l, OwD W w.heap.size v l → v.ownBlock ≠ some bw) :
    WAS Q w (W.setCell ⟨bw, n, none⟩ u) bw (fun j => if j = n then u else vs j) (fun j => if j = n then s else U j) := by
  have k := Kp.set (N := fun i => i = bw) W ⟨bw, n, none⟩ u rfl
  refine ⟨by have := h.box.set n u; rw [arrV_set _ _ _ hn] at this; exact this, fun j hj => ?_, h.qb, fun j hj i hi => ?_⟩
  · by_cases e : j = n
    · subst e; simp only [if_true]; exact owd_kp hu k (fun i hi e => hne _ _ hu (by rw [hi, e]))
    · simp only [if_neg e]; exact owd_kp (h.row j hj) k (fun i hi e => hne _ _ (h.row j hj) (by rw [hi, e]))
  · by_cases e : j = n
    · subst e; simp only [if_true] at hi; exact hq i hi
    · simp only [if_neg e] at hi; exact h.qk j hj i hi
theorem owd_ne_was {W : World} {B b : Nat} {vs : Array Value} {v : Value} {l : List (Int × Int)} (hx : Bx W b 47 vs) (h : OwD W B v l) : v.ownBlock ≠ some b := fun e => by
  obtain ⟨c, fz, hc⟩ := ownsRow_kind h b e
  unfold Bx at hx
  rw [hx] at hc
  simp at hc

/-- append(l, x, y) of two numbers -/
theorem append_two (w : World) (ty : TypeId) (N : Nat) (v : Value) (l : List Int) (x y : Int) (h : OwN w N v l) (hN : N ≤ w.heap.size) (hl : l.length ≤ 1000000) :
    ∃ v' w', (Builtin.append_ #[32, 32] ty #[v, .slice (some ⟨w.heap.size, 0, none⟩) 2 2]).run Try.prog (w.alloc (.cells #[.int .i64 x, .int .i64 y] 3)) = .ok v' w' ∧ OwN w' N v' (l ++ [x, y]) ∧ (w.alloc (.cells #[.int .i64 x, .int .i64 y] 3)).grownBy w' v.ownBlock := by
  obtain ⟨i0, hi, hz0, hz1, hz2⟩ := info_parts infoN
  have hbx := Bx.new w 3 #[.int .i64 x, .int .i64 y]
  obtain ⟨v', w', h1, h2, h3, h4, h5⟩ := run_append_own_at (P := Try.prog) (w.alloc (.cells #[.int .i64 x, .int .i64 y] 3)) N 32 ty 3 i0 _ 1 8 Try.underlying32 hi hz0 hz1 hz2 rfl (by decide) v l.length _ (World.ownsRow.alloc h _) ⟨w.heap.size, 0, none⟩ 2 2 [.int .i64 x, .int .i64 y] rfl (fun j u hu => by
    rw [Addr.add_lit, Nat.zero_add]
    exact hbx.cell j u (by rw [← hu]; simp)) (fun u hu => by simp at hu; rcases hu with rfl | rfl <;> rfl) (by unfold maxLen; omega) (by omega) (by simp; omega)
  refine ⟨v', w', h1, ?_, h3⟩
  unfold OwN
  rw [nC_app]
  simpa [nC] using h2
/-- l[1:] -/
theorem RN.tail {W : World} {a : Option Addr} {c n : Nat} {x : Int} {l : List Int} (h : RN W (.slice a n c) (x :: l)) : ∃ g o, a = some ⟨g, o, none⟩ ∧ n = l.length + 1 ∧ l.length + 1 ≤ c ∧ RN W (.slice (some ⟨g, o + 1, none⟩) l.length (c - 1)) l := by
  rcases h with ⟨h0, _⟩ | ⟨b, off, cap, e, h1, h2, hc⟩
  · simp at h0
  · simp only [Value.slice.injEq] at e
    obtain ⟨rfl, rfl, rfl⟩ := e
    refine ⟨b, off, rfl, rfl, by simpa using h1, .inr ⟨b, off + 1, _, rfl, by simp at h1; omega, h2, fun j v hv => ?_⟩⟩
    have := hc (j + 1) v (by simpa [nC] using hv)
    rw [show off + 1 + j = off + (j + 1) by omega]
    exact this
theorem frR_snoc (S : StF) (ms : List Int) (k : Int) (s : Nat → Int) : frR S (ms ++ [k]) s = lst (frR S ms s) (usR S k) := by simp [frR]
/-- own covers the frontier -/
theorem fro_own (S : StF) (ms : List Int) (s : Nat → Int) : cov s (frR S ms s) = true := cov_all fun i _ => ((frR_le S ms s i _).1 (Int.le_refl _)).1
/-- more members never make it more -/
theorem fro_more (S : StF) {ms ms' : List Int} (h : ∀ x, x ∈ ms → x ∈ ms') (s : Nat → Int) : cov (frR S ms s) (frR S ms' s) = true := cov_all fun i _ => by
  have a := (frR_le S ms' s i _).1 (Int.le_refl _)
  exact (frR_le S ms s i _).2 ⟨a.1, fun k hk => a.2 k (h k hk)⟩

end Go.Proofs.Ytjiphechhfifgaa

/-
  What holds of a row, its usable one, and what that was.
-/
set_option linter.unusedSimpArgs false
set_option linter.unusedVariables false
namespace Go.Proofs.Ytjiphechhfifgaa
open Go.RowKit Go.Lib

theorem KF.site {Q : Nat → Prop} {w W : World} {b n : Nat} {S : StF} (h : KF Q w W b n S) (k : Int) (hs : (S k).isSome = true) : 1 ≤ k ∧ k ≤ 16 := by
  obtain ⟨P, ⟨_, pv, _, h1⟩, _⟩ := h
  rcases h1 with ⟨_, h1⟩ | ⟨r, m, g, _, h1⟩
  · rw [h1 k] at hs; cases hs
  · exact h1.site k hs
theorem us_zero {Q : Nat → Prop} {w W : World} {b n : Nat} {S : StF} (h : KF Q w W b n S) (hm : MI S) : usR S 0 = fun _ => 0 := hm.no 0 (by
  cases e : S 0 with
  | none => rfl
  | some p => have := h.site 0 (by rw [e]; rfl); omega)
/-- what holds of a row, its usable one, and what that was -/
structure MF (s : Stp) (is : Bool) (V U Uo : List (Int × Int)) : Prop where
  cv : chk V = 0
  cu : chk U = 0
  vu : cov (sy V) (sy U) = true
  uo : cov (sy U) (sy Uo) = true
  no : is = false → U = []
  ch : U ≠ Uo → s.kind = 2 ∧ U = V ∧ cov (sy s.vec) (sy U) = true
  st : s.kind = 2 → chk s.vec = 0 → is = true → cov (sy s.vec) (sy V) = true → U = V
theorem MF.of {S : StF} (hm : MI S) (s : Stp) (k : Int) (g0 : Good (usR S k)) (g1 : Good (hdR (doS s S) k)) (g2 : Good (usR (doS s S) k)) : MF s (doS s S k).isSome (vec (hdR (doS s S) k)) (vec (usR (doS s S) k)) (vec (usR S k)) := by
  refine ⟨chk_vec g1, chk_vec g2, ?_, ?_, fun h => ?_, fun h => ?_, fun h1 h2 h3 h4 => ?_⟩
  · rw [sy_vec g1, sy_vec g2]; exact cov_all fun i _ => (hm.do s).le k i
  · rw [sy_vec g0, sy_vec g2]; exact cov_all fun i _ => us_rise hm s k i
  · rw [(hm.do s).no k (by cases e : doS s S k with
      | none => rfl
      | some p => rw [e] at h; cases h)]
    exact vec_zero
  · obtain ⟨h1, h2, h3⟩ := us_change s k (fun e => h (by rw [e]))
    rw [sy_vec g2, ← h2]
    exact ⟨h1, rfl, h3⟩
  · rw [sy_vec g1] at h4
    rw [us_settled s k h1 h2 h3 h4]

/-- an append, as one step of a region that draws -/
theorem step_append_eq {ops : Array Oper} {o : Oper} {a : Act} {w w' : World} {K : Act → World → Prop} {Q : Exit → Act → World → Prop} {E : Prop} (hg : o.guard = none) (s x : Operand) (t : TypeId) (hop : o.op = Op.call { callee := Callee.builtin Builtin.append, args := #[s, x], argTypes := #[t, t] })
    (v u v' : Value) (hs : a.eval s = v) (hx : a.eval x = u) (hr : (Builtin.append_ #[t, t] o.type #[v, u]).run Try.prog w = .ok v' w') (hK : K (a.put o.dst v') w') : if Region.wanted o (yielded ops a.tmps) = true then Oper.wp Try.prog o a w K Q else E := by
  have hw : Region.wanted o (yielded ops a.tmps) = true := by simp [Region.wanted, hg]
  rw [if_pos hw]
  unfold Oper.wp
  simp [execOp, hop, resolve, invoke, builtin, hs, hx, hr, Result.andThen]
  exact hK

end Go.Proofs.Ytjiphechhfifgaa
