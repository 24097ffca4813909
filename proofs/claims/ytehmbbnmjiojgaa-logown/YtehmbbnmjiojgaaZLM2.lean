/-
  The law's do: one call.
-/
import Derived.Test.YtehmbbnmjiojgaaZLM1
set_option linter.unusedSimpArgs false
set_option linter.unusedVariables false
namespace Go.Proofs.Ytehmbbnmjiojgaa
open Go.RowKit Go.Lib

theorem rb_lt {W : World} {v : Value} {n k : Nat} {C : List Value} (h : RC W v n C) (hk : rb v n k) : k < W.heap.size := by
  rcases h with ⟨h0, _⟩ | ⟨b, off, cap, rfl, h1, h2, hc⟩
  · exact absurd h0 hk.1
  · have := hk.2
    simp [Value.ownBlock] at this
    omega
/-- a step as a value -/
def stA (s : Stp) : Value := .agg #[.int .i64 s.kind, .int .i64 s.op.ds, .int .i64 s.op.dq, s.vd, .int .i64 s.op.kind, .int .i64 s.op.it, .int .i64 s.op.is, .int .i64 s.op.rt, .int .i64 s.op.rs, .string s.op.text, s.vg, .int .i64 s.op.site, s.vv]
/-- what a log says behind a step -/
def doB (s : Stp) (base hv : List (Int × Int)) : List (Int × Int) := if s.kind = 1 then base else if s.kind = 3 then (if cutE hv s.vec = 0 then vec (mrg (sy base) (sy s.vec)) else base) else base
def doH (s : Stp) (hv : List (Int × Int)) : List (Int × Int) := if s.kind = 1 then (if addE hv s.op = 0 then (addV hv (s.op.ds, s.op.dq)).1 else hv) else hv
def doO (s : Stp) (hv : List (Int × Int)) (os : List Opn) : List Opn := if s.kind = 1 then (if addE hv s.op = 0 then os ++ [s.op] else os) else if s.kind = 3 then (if cutE hv s.vec = 0 then prL s.vec false os else os) else os
theorem ST.do {base hv : List (Int × Int)} {os : List Opn} (h : ST base hv os) (s : Stp) : ST (doB s base hv) (doH s hv) (doO s hv os) := by
  unfold doB doH doO
  by_cases h1 : s.kind = 1
  · simp only [if_pos h1]; exact h.add s.op
  · by_cases h3 : s.kind = 3
    · simp only [if_neg h1, if_pos h3]; exact h.cut s.vec
    · simp only [if_neg h1, if_neg h3]; exact h
theorem do_len (s : Stp) (hv : List (Int × Int)) (os : List Opn) : (doO s hv os).length ≤ os.length + 1 := by
  unfold doO
  have h1 := add_len hv s.op os
  have h2 := cut_len s.vec hv os
  by_cases h1 : s.kind = 1
  · simp only [if_pos h1]; omega
  · by_cases h3 : s.kind = 3
    · simp only [if_neg h1, if_pos h3]; omega
    · simp only [if_neg h1, if_neg h3]; omega

set_option maxRecDepth 100000 in
set_option maxHeartbeats 4000000 in
theorem do_in {w W : World} {b : Nat} {base hv : List (Int × Int)} {os : List Opn} (h : KS w W b base hv os) (hn : os.length ≤ 999999) (s : Stp) (hs : StW w s) (h1 : s.op.deps.length ≤ 60000) (h2 : s.op.gone.length ≤ 60000) (h3 : s.op.text.size ≤ 60000) (h4 : s.vec.length ≤ 60000) :
    Calls Try.prog 6 #[.pointer (some ⟨b, 0, none⟩), stA s] W fun e W' => e = .returned (.tuple #[]) ∧ KS w W' b (doB s base hv) (doH s hv) (doO s hv os) := by
  obtain ⟨kind, o, vl, vd, vg, vv⟩ := s
  obtain ⟨⟨⟨ad, cd, hd⟩, ⟨ag, cg, hg⟩, ⟨av, cv, hvv⟩⟩, rd, rg, rv, inn, kin⟩ := hs
  simp only at hd hg hvv rd rg rv inn kin h1 h2 h3 h4
  subst hd hg hvv
  obtain ⟨X, hX⟩ : ∃ X, W.alloc (.cells #[.int .i64 kind, .int .i64 o.ds, .int .i64 o.dq, .slice ad o.deps.length cd, .int .i64 o.kind, .int .i64 o.it, .int .i64 o.is, .int .i64 o.rt, .int .i64 o.rs, .string o.text, .slice ag o.gone.length cg, .int .i64 o.site, .slice av vl.length cv] 40) = X := ⟨_, rfl⟩
  have x1 : Bx X W.heap.size 40 #[.int .i64 kind, .int .i64 o.ds, .int .i64 o.dq, .slice ad o.deps.length cd, .int .i64 o.kind, .int .i64 o.it, .int .i64 o.is, .int .i64 o.rt, .int .i64 o.rs, .string o.text, .slice ag o.gone.length cg, .int .i64 o.site, .slice av vl.length cv] := by rw [← hX]; exact Bx.new W _ _
  have bX : Below W.heap.size W X := by rw [← hX]; exact ballc (Below.refl _ _) _
  have hK := h.below bX
  have rd' := rd.below hK.bel
  have rg' := RC.below rg hK.bel
  have rv' := rv.below hK.bel
  have HA := hide (KAdd_in hK (by omega) o ad ag cd cg rd' rg' (inn.fit (by omega) (by omega) (by omega)) (by omega) (by omega) (by omega))
  have HC := hide (KCut_in hK (Below.refl _ _) (by omega) (.slice av vl.length cv) vl rv' (by omega) (fun k hk => .inl (rb_lt rv hk)))
  have HK := hide hK
  unfold opA at HA
  have c0 := x1.cell 0 _ rfl
  have c1 := x1.cell 1 _ rfl
  have c2 := x1.cell 2 _ rfl
  have c3 := x1.cell 3 _ rfl
  have c4 := x1.cell 4 _ rfl
  have c5 := x1.cell 5 _ rfl
  have c6 := x1.cell 6 _ rfl
  have c7 := x1.cell 7 _ rfl
  have c8 := x1.cell 8 _ rfl
  have c9 := x1.cell 9 _ rfl
  have c10 := x1.cell 10 _ rfl
  have c11 := x1.cell 11 _ rfl
  have c12 := x1.cell 12 _ rfl
  have xl := x1.lt
  unfold stA doB doH doO
  simp only
  clear h hK rd rg rv rd' rg' rv' inn bX x1
  by_cases k1 : kind = 1
  · subst k1
    rw [if_pos rfl, if_pos rfl, if_pos rfl]
    generalize (if addE hv o = 0 then (addV hv (o.ds, o.dq)).1 else hv) = H' at HA ⊢
    generalize (if addE hv o = 0 then os ++ [o] else os) = O' at HA ⊢
    go_enter Try.func6, Try.ntmps6
    go_wp2_with fail
    refine (unhide HA).mono ?_
    rintro r W1 ⟨rfl, hk1⟩
    have HK1 := hide hk1
    clear hk1 HA HC HK c0 c1 c2 c3 c4 c5 c6 c7 c8 c9 c10 c11 c12
    go_wp2
    refine bodyPost_end (results_none rfl _ _ _) rfl ?_
    exact ⟨rfl, unhide HK1⟩
  · simp only [if_neg k1]
    have k1' : (kind == 1) = false := by simpa using k1
    by_cases k3 : kind = 3
    · subst k3
      rw [if_pos rfl, if_pos rfl]
      generalize (if cutE hv vl = 0 then vec (mrg (sy base) (sy vl)) else base) = H' at HC ⊢
      generalize (if cutE hv vl = 0 then prL vl false os else os) = O' at HC ⊢
      go_enter Try.func6, Try.ntmps6
      go_wp2_with fail
      refine (unhide HC).mono ?_
      rintro r W1 ⟨v', P', rfl, hrl, hk1⟩
      have HK1 := hide hk1
      clear hk1 hrl HA HC HK c0 c1 c2 c3 c4 c5 c6 c7 c8 c9 c10 c11 c12
      go_wp2
      refine bodyPost_end (results_none rfl _ _ _) rfl ?_
      exact ⟨rfl, unhide HK1⟩
    · simp only [if_neg k3]
      have k3' : (kind == 3) = false := by simpa using k3
      clear HA HC
      go_enter Try.func6, Try.ntmps6
      go_wp2
      refine bodyPost_end (results_none rfl _ _ _) rfl ?_
      exact ⟨rfl, unhide HK⟩

end Go.Proofs.Ytehmbbnmjiojgaa
