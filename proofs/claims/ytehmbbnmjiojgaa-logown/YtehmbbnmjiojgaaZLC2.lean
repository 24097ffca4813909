/-
  Two logs, side by side.
-/
import Derived.Test.YtehmbbnmjiojgaaZLC1
set_option linter.unusedSimpArgs false
set_option linter.unusedVariables false
namespace Go.Proofs.Ytehmbbnmjiojgaa
open Go.RowKit Go.Lib

set_option maxRecDepth 100000 in
set_option maxHeartbeats 4000000 in
theorem doP_in {P : Nat → Prop} {W : World} {b : Nat} {base hv : List (Int × Int)} {os : List Opn} (h : LL P W b base hv os) (hP : ∀ i, P i → i < W.heap.size) (hn : os.length ≤ 999999) (s : Stp) (hs : StW W s) (hap : ∀ k, rb s.vv s.vec.length k → ¬ P k) (h1 : s.op.deps.length ≤ 60000) (h2 : s.op.gone.length ≤ 60000) (h3 : s.op.text.size ≤ 60000) (h4 : s.vec.length ≤ 60000) :
    Calls Try.prog 6 #[.pointer (some ⟨b, 0, none⟩), stA s] W fun e W' => e = .returned (.tuple #[]) ∧ LL (fun i => P i ∨ W.heap.size ≤ i) W' b (doB s base hv) (doH s hv) (doO s hv os) ∧ Kp P W W' := by
  obtain ⟨kind, o, vl, vd, vg, vv⟩ := s
  obtain ⟨⟨⟨ad, cd, hd⟩, ⟨ag, cg, hg⟩, ⟨av, cv, hvv⟩⟩, rd, rg, rv, inn, kin⟩ := hs
  simp only at hd hg hvv rd rg rv inn kin h1 h2 h3 h4 hap
  subst hd hg hvv
  obtain ⟨X, hX⟩ : ∃ X, W.alloc (.cells #[.int .i64 kind, .int .i64 o.ds, .int .i64 o.dq, .slice ad o.deps.length cd, .int .i64 o.kind, .int .i64 o.it, .int .i64 o.is, .int .i64 o.rt, .int .i64 o.rs, .string o.text, .slice ag o.gone.length cg, .int .i64 o.site, .slice av vl.length cv] 40) = X := ⟨_, rfl⟩
  have x1 : Bx X W.heap.size 40 #[.int .i64 kind, .int .i64 o.ds, .int .i64 o.dq, .slice ad o.deps.length cd, .int .i64 o.kind, .int .i64 o.it, .int .i64 o.is, .int .i64 o.rt, .int .i64 o.rs, .string o.text, .slice ag o.gone.length cg, .int .i64 o.site, .slice av vl.length cv] := by rw [← hX]; exact Bx.new W _ _
  have bX : Below W.heap.size W X := by rw [← hX]; exact ballc (Below.refl _ _) _
  have hK := h.below bX
  have hPX : ∀ i, P i → i < X.heap.size := fun i hi => Nat.lt_of_lt_of_le (hP i hi) bX.size
  have HA := hide (LAdd_in hK hPX (by omega) o ad ag cd cg (rd.below bX) (RC.below rg bX) (inn.fit (by omega) (by omega) (by omega)) (by omega) (by omega) (by omega))
  have HC := hide (Cut_in hK hPX (by omega) (.slice av vl.length cv) vl (rv.below bX) (by omega) hap)
  have HK := hide (hK.mono (P' := fun i => P i ∨ W.heap.size ≤ i) (fun i hi => .inl hi))
  have HB := hide bX
  unfold AddA at HA
  unfold CutA at HC
  have c0 := x1.cell 0 _ rfl
  have c1 := x1.cell 1 _ rfl
  have c2 := x1.cell 2 _ rfl
  have c3 := x1.cell 3 _ rfl
  have c4 := x1.cell 4 _ rfl
  have c5 := x1.cell 5 _ rfl
  have c6 := x1.cell 6 _ rfl
  have c7 := x1.cell 7 _ rfl
  have c8 := x1.cell 8 _ rfl
  have c9 := x1.cell 9 _ rfl
  have c10 := x1.cell 10 _ rfl
  have c11 := x1.cell 11 _ rfl
  have c12 := x1.cell 12 _ rfl
  have xl := x1.lt
  unfold stA doB doH doO
  simp only
  clear h hK rd rg rv inn bX x1 hP hPX hap
  by_cases k1 : kind = 1
  · subst k1
    rw [if_pos rfl, if_pos rfl, if_pos rfl]
    generalize (if addE hv o = 0 then (addV hv (o.ds, o.dq)).1 else hv) = H' at HA ⊢
    generalize (if addE hv o = 0 then os ++ [o] else os) = O' at HA ⊢
    go_enter Try.func6, Try.ntmps6
    go_wp2_with fail
    refine (unhide HA).mono ?_
    rintro r W1 ⟨rfl, hk1, kk⟩
    have HK1 := hide (hk1.mono (P' := fun i => P i ∨ W.heap.size ≤ i) (fun i hi => by have := (unhide HB).size; rcases hi with h | h; exact .inl h; exact .inr (by omega)))
    have KK := hide ((Kp.of_below (N := P) (unhide HB)).trans kk (fun i h => .inl h))
    clear hk1 kk HA HC HK c0 c1 c2 c3 c4 c5 c6 c7 c8 c9 c10 c11 c12
    go_wp2
    refine bodyPost_end (results_none rfl _ _ _) rfl ?_
    exact ⟨rfl, unhide HK1, unhide KK⟩
  · simp only [if_neg k1]
    have k1' : (kind == 1) = false := by simpa using k1
    by_cases k3 : kind = 3
    · subst k3
      rw [if_pos rfl, if_pos rfl]
      generalize (if cutE hv vl = 0 then vec (mrg (sy base) (sy vl)) else base) = H' at HC ⊢
      generalize (if cutE hv vl = 0 then prL vl false os else os) = O' at HC ⊢
      go_enter Try.func6, Try.ntmps6
      go_wp2_with fail
      refine (unhide HC).mono ?_
      rintro r W1 ⟨v', M, rfl, hM1, hM2, hrl, hk1, kk⟩
      have HK1 := hide (hk1.mono (P' := fun i => P i ∨ W.heap.size ≤ i) (fun i hi => by have := (unhide HB).size; rcases hi with h | h; exact .inl h; exact .inr (by omega)))
      have KK := hide ((Kp.of_below (N := P) (unhide HB)).trans kk (fun i h => .inl h))
      clear hk1 hrl kk HA HC HK c0 c1 c2 c3 c4 c5 c6 c7 c8 c9 c10 c11 c12
      go_wp2
      refine bodyPost_end (results_none rfl _ _ _) rfl ?_
      exact ⟨rfl, unhide HK1, unhide KK⟩
    · simp only [if_neg k3]
      have k3' : (kind == 3) = false := by simpa using k3
      clear HA HC
      go_enter Try.func6, Try.ntmps6
      go_wp2
      refine bodyPost_end (results_none rfl _ _ _) rfl ?_
      exact ⟨rfl, unhide HK, Kp.of_below (unhide HB)⟩

/-- two logs in new memory, apart from each other and from Q -/
def KT (Q : Nat → Prop) (w W : World) (b1 : Nat) (B1 H1 : List (Int × Int)) (O1 : List Opn) (b2 : Nat) (B2 H2 : List (Int × Int)) (O2 : List Opn) : Prop :=
  ∃ P1 P2, LL P1 W b1 B1 H1 O1 ∧ LL P2 W b2 B2 H2 O2 ∧ (∀ i, P1 i → w.heap.size ≤ i ∧ i < W.heap.size ∧ ¬ P2 i ∧ ¬ Q i) ∧ (∀ i, P2 i → w.heap.size ≤ i ∧ i < W.heap.size ∧ ¬ P1 i ∧ ¬ Q i) ∧ (∀ i, Q i → i < W.heap.size) ∧ Below w.heap.size w W
variable {Q : Nat → Prop} {w W W' : World} {b1 : Nat} {B1 H1 : List (Int × Int)} {O1 : List Opn} {b2 : Nat} {B2 H2 : List (Int × Int)} {O2 : List Opn}
theorem KT.swap (h : KT Q w W b1 B1 H1 O1 b2 B2 H2 O2) : KT Q w W b2 B2 H2 O2 b1 B1 H1 O1 := by
  obtain ⟨P1, P2, h1, h2, h3, h4, h5, h6⟩ := h
  exact ⟨P2, P1, h2, h1, h4, h3, h5, h6⟩
theorem KT.bel (h : KT Q w W b1 B1 H1 O1 b2 B2 H2 O2) : Below w.heap.size w W := by
  obtain ⟨_, _, _, _, _, _, _, h⟩ := h; exact h
theorem KT.one (h : KT Q w W b1 B1 H1 O1 b2 B2 H2 O2) : KS w W b1 B1 H1 O1 := by
  obtain ⟨P1, P2, h1, h2, h3, h4, h5, h6⟩ := h
  exact ⟨P1, h1, fun i hi => ⟨(h3 i hi).1, (h3 i hi).2.1⟩, h6⟩
/-- what is new behind may be told apart too -/
theorem KT.grow (h : KT Q w W b1 B1 H1 O1 b2 B2 H2 O2) (hb : Below W.heap.size W W') : KT (fun i => Q i ∨ (W.heap.size ≤ i ∧ i < W'.heap.size)) w W' b1 B1 H1 O1 b2 B2 H2 O2 := by
  obtain ⟨P1, P2, h1, h2, h3, h4, h5, h6⟩ := h
  have hz := hb.size
  refine ⟨P1, P2, h1.below hb, h2.below hb, fun i hi => ?_, fun i hi => ?_, fun i hi => ?_, bnext h6 hb⟩
  · obtain ⟨k1, k2, k3, k4⟩ := h3 i hi
    exact ⟨k1, by omega, k3, fun e => by rcases e with e | e; exact k4 e; omega⟩
  · obtain ⟨k1, k2, k3, k4⟩ := h4 i hi
    exact ⟨k1, by omega, k3, fun e => by rcases e with e | e; exact k4 e; omega⟩
  · rcases hi with e | e
    · have := h5 i e; omega
    · omega
theorem KT.below (h : KT Q w W b1 B1 H1 O1 b2 B2 H2 O2) (hb : Below W.heap.size W W') : KT Q w W' b1 B1 H1 O1 b2 B2 H2 O2 := by
  obtain ⟨P1, P2, h1, h2, h3, h4, h5, h6⟩ := h
  have hz := hb.size
  exact ⟨P1, P2, h1.below hb, h2.below hb, fun i hi => ⟨(h3 i hi).1, by have := (h3 i hi).2.1; omega, (h3 i hi).2.2⟩, fun i hi => ⟨(h4 i hi).1, by have := (h4 i hi).2.1; omega, (h4 i hi).2.2⟩, fun i hi => by have := h5 i hi; omega, bnext h6 hb⟩
/-- log 1 has gone on -/
theorem KT.step {b1 : Nat} {B1' H1' : List (Int × Int)} {O1' : List Opn} {P1 P2 P1' : Nat → Prop} (h2 : LL P2 W b2 B2 H2 O2) (h3 : ∀ i, P1 i → w.heap.size ≤ i ∧ i < W.heap.size ∧ ¬ P2 i ∧ ¬ Q i) (h4 : ∀ i, P2 i → w.heap.size ≤ i ∧ i < W.heap.size ∧ ¬ P1 i ∧ ¬ Q i) (h5 : ∀ i, Q i → i < W.heap.size) (h6 : Below w.heap.size w W) (h1 : LL P1' W' b1 B1' H1' O1') (hp : ∀ i, P1' i → P1 i ∨ W.heap.size ≤ i) (k : Kp P1 W W') : KT Q w W' b1 B1' H1' O1' b2 B2 H2 O2 := by
  have hz := k.size
  have hz6 := h6.size
  refine ⟨_, P2, h1.lt, h2.kp k (fun i hi => (h3 i hi).2.2.1), fun i hi => ?_, fun i hi => ?_, fun i hi => by have := h5 i hi; omega, k.below h6 (fun i hi => (h3 i hi).1)⟩
  · rcases hp i hi.1 with h | h
    · obtain ⟨q1, q2, q3, q4⟩ := h3 i h
      exact ⟨q1, hi.2, q3, q4⟩
    · exact ⟨by omega, hi.2, fun e => by have := (h4 i e).2.1; omega, fun e => by have := h5 i e; omega⟩
  · obtain ⟨q1, q2, q3, q4⟩ := h4 i hi
    refine ⟨q1, by omega, fun e => ?_, q4⟩
    rcases hp i e.1 with h | h
    · exact q3 h
    · omega
theorem do1_in (h : KT Q w W b1 B1 H1 O1 b2 B2 H2 O2) (hn : O1.length ≤ 999999) (s : Stp) (hs : StW w s) (h1 : s.op.deps.length ≤ 60000) (h2 : s.op.gone.length ≤ 60000) (h3 : s.op.text.size ≤ 60000) (h4 : s.vec.length ≤ 60000) :
    Calls Try.prog 6 #[.pointer (some ⟨b1, 0, none⟩), stA s] W fun e W' => e = .returned (.tuple #[]) ∧ KT Q w W' b1 (doB s B1 H1) (doH s H1) (doO s H1 O1) b2 B2 H2 O2 := by
  obtain ⟨P1, P2, g1, g2, g3, g4, g5, g6⟩ := h
  refine (doP_in g1 (fun i hi => (g3 i hi).2.1) hn s (hs.below g6) (fun k hk e => by have := rb_lt hs.rv hk; have := (g3 k e).1; omega) h1 h2 h3 h4).mono ?_
  rintro e W' ⟨rfl, hl, k⟩
  exact ⟨rfl, KT.step g2 g3 g4 g5 g6 hl (fun i hi => hi) k⟩
theorem cut1_in (h : KT Q w W b1 B1 H1 O1 b2 B2 H2 O2) (hn : O1.length ≤ 1000000) (v : Value) (l : List (Int × Int)) (hr : RI W v l) (hl : l.length ≤ 1000000) (hap : ∀ k, rb v l.length k → Q k ∨ k < w.heap.size) :
    Calls Try.prog 14 #[.pointer (some ⟨b1, 0, none⟩), v] W fun e W' => ∃ a c, e = .returned (.tuple #[.slice a (if cutE H1 l = 0 then prL l true O1 else []).length c, .int .i64 (cutE H1 l)]) ∧ RL (fun _ => True) W' (.slice a (if cutE H1 l = 0 then prL l true O1 else []).length c) (if cutE H1 l = 0 then prL l true O1 else []) ∧ KT Q w W' b1 (if cutE H1 l = 0 then vec (mrg (sy B1) (sy l)) else B1) H1 (if cutE H1 l = 0 then prL l false O1 else O1) b2 B2 H2 O2 ∧ Kp (fun i => ¬ Q i) W W' := by
  obtain ⟨P1, P2, g1, g2, g3, g4, g5, g6⟩ := h
  refine (Cut_in g1 (fun i hi => (g3 i hi).2.1) hn v l hr hl (fun k hk e => by
    rcases hap k hk with h | h
    · exact (g3 k e).2.2.2 h
    · have := (g3 k e).1; omega)).mono ?_
  rintro e W' ⟨v', M, rfl, hM1, hM2, hrl, hll, k⟩
  obtain ⟨a, c, rfl⟩ := rl_form hrl
  exact ⟨a, c, rfl, hrl.mono (fun _ _ => trivial), KT.step g2 g3 g4 g5 g6 hll (fun i hi => by rcases hi with h | h; exact .inl h; exact .inr (by omega)) k, k.wk (fun i hi => (g3 i hi).2.2.2)⟩
theorem RI.kpQ {W W' : World} {v : Value} {l : List (Int × Int)} (h : RI W v l) (k : Kp (fun i => ¬ Q i) W W') (hq : ∀ i, rb v l.length i → Q i) : RI W' v l := RC.kpn h k (fun i hi hn => hn (hq i hi))

end Go.Proofs.Ytehmbbnmjiojgaa
