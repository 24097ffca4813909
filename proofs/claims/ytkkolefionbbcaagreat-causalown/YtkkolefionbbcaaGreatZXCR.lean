/-
  The document's own: which of two is the farther one.
-/
import Derived.Test.YtkkolefionbbcaaGreatZCQ7
import Derived.Test.YtkkolefionbbcaaGreatZXU
import Derived.Test.YtkkolefionbbcaaGreatZCQ4
import Derived.Test.YtkkolefionbbcaaGreatZCQB

set_option linter.unusedSimpArgs false
set_option linter.unusedVariables false
namespace Go.Proofs.YtkkolefionbbcaaGreat
open Go.RowKit Go.Lib

set_option maxRecDepth 100000 in
set_option maxHeartbeats 4000000 in
theorem refFarther_in (x y : Opn) (aa ab ag ah : Option Addr) (ca cb ng cg nh ch : Nat) (w : World) (ha : RI w (.slice aa x.deps.length ca) x.deps) (hb : RI w (.slice ab y.deps.length cb) y.deps) (la : x.deps.length ≤ 1000000) (lb : y.deps.length ≤ 1000000) :
    Calls Tryz.prog 58 #[.agg #[.int .i64 x.ds, .int .i64 x.dq, .slice aa x.deps.length ca, .int .i64 x.kind, .int .i64 x.it, .int .i64 x.is, .int .i64 x.rt, .int .i64 x.rs, .string x.text, .slice ag ng cg, .int .i64 x.site], .agg #[.int .i64 y.ds, .int .i64 y.dq, .slice ab y.deps.length cb, .int .i64 y.kind, .int .i64 y.it, .int .i64 y.is, .int .i64 y.rt, .int .i64 y.rs, .string y.text, .slice ah nh ch, .int .i64 y.site]] w fun e W => e = .returned (.bool (farO x y)) ∧ Below w.heap.size w W := by
  obtain ⟨R, hR⟩ : ∃ R, farO x y = R := ⟨_, rfl⟩
  rw [hR]
  have hR' := farO_iff x y
  rw [hR] at hR'
  obtain ⟨w2, hw2⟩ : ∃ w2, (w.alloc (.cells #[.int .i64 x.ds, .int .i64 x.dq, .slice aa x.deps.length ca, .int .i64 x.kind, .int .i64 x.it, .int .i64 x.is, .int .i64 x.rt, .int .i64 x.rs, .string x.text, .slice ag ng cg, .int .i64 x.site] 42)).alloc (.cells #[.int .i64 y.ds, .int .i64 y.dq, .slice ab y.deps.length cb, .int .i64 y.kind, .int .i64 y.it, .int .i64 y.is, .int .i64 y.rt, .int .i64 y.rs, .string y.text, .slice ah nh ch, .int .i64 y.site] 42) = w2 := ⟨_, rfl⟩
  have bb0 : Bx w2 w.heap.size 42 #[.int .i64 x.ds, .int .i64 x.dq, .slice aa x.deps.length ca, .int .i64 x.kind, .int .i64 x.it, .int .i64 x.is, .int .i64 x.rt, .int .i64 x.rs, .string x.text, .slice ag ng cg, .int .i64 x.site] := by rw [← hw2]; exact (Bx.new w 42 _).below (ballc (Below.refl _ _) _)
  have bb1 : Bx w2 (w.heap.size + 1) 42 #[.int .i64 y.ds, .int .i64 y.dq, .slice ab y.deps.length cb, .int .i64 y.kind, .int .i64 y.it, .int .i64 y.is, .int .i64 y.rt, .int .i64 y.rs, .string y.text, .slice ah nh ch, .int .i64 y.site] := by rw [← hw2]; exact bx_lastR _ _ _ _
  have bw : Below w.heap.size w w2 := by rw [← hw2]; exact ballc (ballc (Below.refl _ _) _) _
  have HA := hide (refSum_in _ x.deps w2 (ha.below bw) (by omega))
  have HB := hide (fun (W : World) (h : Below w2.heap.size w2 W) => refSum_in _ y.deps W (hb.below (bnext bw h)) (by omega))
  have c2 : w2.cell? ⟨w.heap.size, 2, none⟩ = some (.slice aa x.deps.length ca) := bb0.cell 2 _ rfl
  have HB0 := hide bb0
  have HB1 := hide bb1
  have HW := hide bw
  generalize sum (sy x.deps) = SA at *
  generalize sum (sy y.deps) = SB at *
  clear hR bb0 bb1 bw ha hb
  go_enter Tryz.func58, Tryz.ntmps58
  go_wp2_with fail
  refine (unhide HA).mono ?_
  rintro e W1 ⟨rfl, b1⟩
  have HB' := hide (unhide HB W1 b1)
  have bx1 := (unhide HB1).below b1
  have e2 : W1.cell? ⟨w.heap.size + 1, 2, none⟩ = some (.slice ab y.deps.length cb) := bx1.cell 2 _ rfl
  have Hb1 := hide b1
  clear HA HB b1 bx1 c2
  go_wp2_with fail
  refine (unhide HB').mono ?_
  rintro e W2 ⟨rfl, b2⟩
  have bx0 := ((unhide HB0).below (unhide Hb1)).below b2
  have bx1 := ((unhide HB1).below (unhide Hb1)).below b2
  have d0 : W2.cell? ⟨w.heap.size, 0, none⟩ = some (.int .i64 x.ds) := bx0.cell 0 _ rfl
  have d1 : W2.cell? ⟨w.heap.size, 1, none⟩ = some (.int .i64 x.dq) := bx0.cell 1 _ rfl
  have f0 : W2.cell? ⟨w.heap.size + 1, 0, none⟩ = some (.int .i64 y.ds) := bx1.cell 0 _ rfl
  have f1 : W2.cell? ⟨w.heap.size + 1, 1, none⟩ = some (.int .i64 y.dq) := bx1.cell 1 _ rfl
  have HW2 := hide (bnext (unhide HW) (bnext (unhide Hb1) b2))
  have HR := hide hR'
  clear HB' b2 bx0 bx1 e2 hR' HB0 HB1 Hb1 HW
  generalize x.ds = xs at *
  generalize y.ds = ys at *
  by_cases h1 : SA = SB
  · subst h1
    by_cases h2 : xs = ys
    · subst h2
      have hv : R = decide (y.dq < x.dq) := by
        rw [Bool.eq_iff_iff, unhide HR]
        simp
      subst hv
      go_wp2
      go_ret
      exact ⟨rfl, unhide HW2⟩
    · have h2' : (xs != ys) = true := by simpa using h2
      have hv : R = decide (ys < xs) := by
        rw [Bool.eq_iff_iff, unhide HR]
        simp
        omega
      subst hv
      go_wp2
      go_ret
      exact ⟨rfl, unhide HW2⟩
  · have h1' : (SA != SB) = true := by simpa using h1
    have hv : R = decide (SB < SA) := by
      rw [Bool.eq_iff_iff, unhide HR]
      simp
      omega
    subst hv
    go_wp2
    go_ret
    exact ⟨rfl, unhide HW2⟩

end Go.Proofs.YtkkolefionbbcaaGreat

/-
  The document's own: can an operation be delivered?
-/
set_option linter.unusedSimpArgs false
set_option linter.unusedVariables false
namespace Go.Proofs.YtkkolefionbbcaaGreat
open Go.RowKit Go.Lib

variable {w W W' : World} {b : Nat}
set_option maxRecDepth 100000 in
set_option maxHeartbeats 4000000 in
theorem refCan_in (vh : Value) (hv : List (Int × Int)) (hc1 : w.cell? ⟨b, 1, none⟩ = some vh) (hvr : RI w vh hv) (hhl : hv.length ≤ 1000000) (o : Opn) (vd vg : Value) (hd : RI w vd o.deps) (hl : o.deps.length ≤ 1000000) (hg : ∃ a n c, vg = .slice a n c) : Calls Tryz.prog 54 #[.pointer (some ⟨b, 0, none⟩), opA o vd vg] w fun e W => e = .returned (.bool (canO hv o)) ∧ Below w.heap.size w W := by
  obtain ⟨ah, ch, rfl⟩ := hvr.form
  obtain ⟨ad, cd, rfl⟩ := hd.form
  obtain ⟨ag, ng, cg, rfl⟩ := hg
  obtain ⟨X0, hX0⟩ : ∃ X0, w.alloc (opO o (.slice ad o.deps.length cd) (.slice ag ng cg)) = X0 := ⟨_, rfl⟩
  have b0 : Below w.heap.size w X0 := by rw [← hX0]; exact ballc (Below.refl _ _) _
  have B0 : Bx X0 w.heap.size 42 #[.int .i64 o.ds, .int .i64 o.dq, .slice ad o.deps.length cd, .int .i64 o.kind, .int .i64 o.it, .int .i64 o.is, .int .i64 o.rt, .int .i64 o.rs, .string o.text, .slice ag ng cg, .int .i64 o.site] := by rw [← hX0]; exact Bx.new _ _ _
  have HG := hide (fun (W : World) (hb : Below X0.heap.size X0 W) => refGet_in _ hv o.ds W (hvr.below (bnext b0 hb)) (by omega))
  have HC := hide (fun (W : World) (hb : Below X0.heap.size X0 W) => refCovers_in _ _ hv o.deps W (hvr.below (bnext b0 hb)) (hd.below (bnext b0 hb)) (by omega) (by omega))
  have mixed : Tryz.prog.follows .mixedOrders = true := by kernel_rfl
  have hne := BelowOf.ne X0
  have k0 : ∀ p : BelowOf X0, p.w.cell? ⟨w.heap.size, 0, none⟩ = some (.int .i64 o.ds) := fun p => cell_below (B0.cell 0 _ rfl) p.h
  have k1 : ∀ p : BelowOf X0, p.w.cell? ⟨w.heap.size, 1, none⟩ = some (.int .i64 o.dq) := fun p => cell_below (B0.cell 1 _ rfl) p.h
  have k2 : ∀ p : BelowOf X0, p.w.cell? ⟨w.heap.size, 2, none⟩ = some (.slice ad o.deps.length cd) := fun p => cell_below (B0.cell 2 _ rfl) p.h
  have k3 : ∀ p : BelowOf X0, p.w.cell? ⟨b, 1, none⟩ = some (.slice ah hv.length ch) := fun p => cell_below (cell_below hc1 b0) p.h
  have HB := hide b0
  obtain ⟨R, hR⟩ : ∃ R, canO hv o = R := ⟨_, rfl⟩
  rw [hR]
  unfold canO at hR
  obtain ⟨gv, hgv⟩ : ∃ gv, getV hv o.ds = gv := ⟨_, rfl⟩
  have hgb := getV_le hv o.ds
  rw [hgv] at HG hR hgb
  have hwr : IntKind.i64.wrap (gv + 1) = gv + 1 := by simp only [IntKind.wrap_i64]; omega
  obtain ⟨cv, hcv⟩ : ∃ cv, cov (sy hv) (sy o.deps) = cv := ⟨_, rfl⟩
  rw [hcv] at HC hR
  unfold opA
  clear hc1 hd hvr b0 B0 hgv hcv
  by_cases he : gv + 1 = o.dq
  · have he' : (o.dq == gv + 1) = true := by simpa using he.symm
    obtain rfl : cv = R := by rw [← hR]; simp [he]
    clear hR he
    go_enter Tryz.func54, Tryz.ntmps54
    go_wp2_with fail
    refine wp_region_quiet_below mixed (by kernel_rfl) ?_
    repeat (any_goals (first | go_big_quiet_step ((first | (go_at_call 22; exact below_of (unhide HC _ (BelowOf.h _))) | (go_at_call 23; exact below_of (unhide HG _ (BelowOf.h _))))) | quiet_step ((first | (go_at_call 22; exact below_of (unhide HC _ (BelowOf.h _))) | (go_at_call 23; exact below_of (unhide HG _ (BelowOf.h _)))))))
    all_goals (refine wpQuiet_nil ?_; intro _ hw'; obtain ⟨p, hw''⟩ := hw'; subst hw'')
    have HBW := hide (bnext (unhide HB) p.h)
    go_wp2
    go_ret
    exact ⟨rfl, unhide HBW⟩
  · have he' : (o.dq == gv + 1) = false := by simpa using Ne.symm he
    obtain rfl : false = R := by rw [← hR]; simp [he]
    clear hR he
    go_enter Tryz.func54, Tryz.ntmps54
    go_wp2_with fail
    refine wp_region_quiet_below mixed (by kernel_rfl) ?_
    repeat (any_goals (first | go_big_quiet_step ((first | (go_at_call 22; exact below_of (unhide HC _ (BelowOf.h _))) | (go_at_call 23; exact below_of (unhide HG _ (BelowOf.h _))))) | quiet_step ((first | (go_at_call 22; exact below_of (unhide HC _ (BelowOf.h _))) | (go_at_call 23; exact below_of (unhide HG _ (BelowOf.h _)))))))
    all_goals (refine wpQuiet_nil ?_; intro _ hw'; obtain ⟨p, hw''⟩ := hw'; subst hw'')
    have HBW := hide (bnext (unhide HB) p.h)
    go_wp2
    go_ret
    exact ⟨rfl, unhide HBW⟩


end Go.Proofs.YtkkolefionbbcaaGreat

/-
  The document's own queue in memory: what it keeps is the caller's, where it lies in the world w0.
-/
set_option linter.unusedSimpArgs false
set_option linter.unusedVariables false
namespace Go.Proofs.YtkkolefionbbcaaGreat
open Go.RowKit Go.Lib

/-- an operation that is kept: its lists lie in the world w0 -/
structure ED (w0 : World) (P : Nat → Prop) (W : World) (e : Opn × Value × Value) : Prop where
  d : RI w0 e.2.1 e.1.deps
  g : RC w0 e.2.2 e.1.gone.length (flat encR e.1.gone)
  s1 : e.1.deps.length ≤ 1000000
  s2 : e.1.gone.length ≤ 1000000
  s3 : e.1.text.size ≤ 1000000
  inn : InO e.1
theorem ED.any {w0 : World} {P P' : Nat → Prop} {W W' : World} {e : Opn × Value × Value} (h : ED w0 P W e) : ED w0 P' W' e := ⟨h.d, h.g, h.s1, h.s2, h.s3, h.inn⟩
theorem ED.kp {w0 : World} {P N : Nat → Prop} {W W' : World} {e : Opn × Value × Value} (h : ED w0 P W e) (k : Kp N W W') (hn : ∀ i, N i → ¬ P i) : ED w0 P W' e := h.any
theorem ED.kt {w0 : World} {P N : Nat → Prop} {W W' : World} {e : Opn × Value × Value} (h : ED w0 P W e) (k : Kp N W W') (hn : ∀ i, N i → ∃ t cur, Bx W i t cur ∧ t ≠ 28 ∧ t ≠ 72) : ED w0 P W' e := h.any
theorem ED.below {w0 : World} {P : Nat → Prop} {W W' : World} {e : Opn × Value × Value} (h : ED w0 P W e) (hb : Below W.heap.size W W') : ED w0 P W' e := h.any
theorem ED.mono {w0 : World} {P P' : Nat → Prop} {W : World} {e : Opn × Value × Value} (h : ED w0 P W e) (hp : ∀ i, P i → P' i) : ED w0 P' W e := h.any
theorem ED.one {w0 : World} {P : Nat → Prop} {W : World} {e : Opn × Value × Value} (h : ED w0 P W e) : ∀ u ∈ encO e, u.oneCell' = true := by
  obtain ⟨a, c, h1⟩ := RI.form h.d
  obtain ⟨a', c', h2⟩ := RC.form h.g
  intro u hu
  unfold encO at hu
  rw [h1, h2] at hu
  simp at hu
  rcases hu with rfl | rfl | rfl | rfl | rfl | rfl | rfl | rfl | rfl | rfl | rfl <;> rfl

/-- a queue: its variable, what was delivered, what waits, what was not taken -/
structure QD (w0 : World) (P : Nat → Prop) (W : World) (b : Nat) (hold : Int) (vh vw vr : Value) (hv : List (Int × Int)) (ws rd : List (Opn × Value × Value)) : Prop where
  box : Bx W b 51 #[.int .i64 hold, vh, vw, vr]
  rh : OwD W 0 vh hv
  rw : W.ownsRow 0 42 11 vw ws.length (flat encO ws)
  rr : RdA W vr rd.length (flat encO rd)
  we : ∀ e ∈ ws, ED w0 P W e
  re : ∀ e ∈ rd, ED w0 P W e
  pb : P b
  ph : ∀ k, vh.ownBlock = some k → P k
  pw : ∀ k, vw.ownBlock = some k → P k
  pr : ∀ k, vr.ownBlock = some k → P k
  ap : ∀ k, vw.ownBlock = some k → vr.ownBlock ≠ some k
  hl : hv.length ≤ 1000000
variable {w0 : World} {P N : Nat → Prop} {W W' : World} {b : Nat} {hold : Int} {vh vw vr : Value} {hv : List (Int × Int)} {ws rd : List (Opn × Value × Value)}
theorem QD.kp (h : QD w0 P W b hold vh vw vr hv ws rd) (k : Kp N W W') (hn : ∀ i, N i → ¬ P i) : QD w0 P W' b hold vh vw vr hv ws rd :=
  ⟨h.box.kp k (fun e => hn _ e h.pb), owns_kp h.rh k (fun i hi e => hn i e (h.ph i hi)), owns_kp h.rw k (fun i hi e => hn i e (h.pw i hi)), h.rr.kp k (fun i hi e => hn i e (h.pr i hi)), fun e he => (h.we e he).kp k hn, fun e he => (h.re e he).kp k hn, h.pb, h.ph, h.pw, h.pr, h.ap, h.hl⟩
theorem QD.below (h : QD w0 P W b hold vh vw vr hv ws rd) (hb : Below W.heap.size W W') : QD w0 P W' b hold vh vw vr hv ws rd := h.kp (N := fun _ => False) (Kp.of_below hb) (fun _ h => h.elim)
theorem QD.mono {P' : Nat → Prop} (h : QD w0 P W b hold vh vw vr hv ws rd) (hp : ∀ i, P i → P' i) : QD w0 P' W b hold vh vw vr hv ws rd :=
  ⟨h.box, h.rh, h.rw, h.rr, fun e he => (h.we e he).mono hp, fun e he => (h.re e he).mono hp, hp _ h.pb, fun k hk => hp k (h.ph k hk), fun k hk => hp k (h.pw k hk), fun k hk => hp k (h.pr k hk), h.ap, h.hl⟩

end Go.Proofs.YtkkolefionbbcaaGreat

/-
  The document's own: deliver.
-/
set_option linter.unusedSimpArgs false
set_option linter.unusedVariables false
namespace Go.Proofs.YtkkolefionbbcaaGreat
open Go.RowKit Go.Lib

variable {w0 : World} {P N : Nat → Prop} {w W W' : World} {b : Nat} {hold : Int} {vh vw vr : Value} {hv : List (Int × Int)} {ws rd : List (Opn × Value × Value)}
/-- inside the first region of deliver -/
structure DlK (X : World) (b : Nat) (hold : Int) (vw vr : Value) (l : List (Int × Int)) (f : Nat → Bool) (W : World) : Prop where
  b0 : f 13 = false → Below X.heap.size X W
  fin : f 13 = true → ∃ v', Bx W b 51 #[.int .i64 hold, v', vw, vr] ∧ OwD W X.heap.size v' l
  kz : Kp (fun i => i = b) X W
theorem DlK.nop {X : World} {l : List (Int × Int)} {f : Nat → Bool} (h : DlK X b hold vw vr l f W) (i : Nat) (h1 : (13 == i) = false) : DlK X b hold vw vr l (fun q => f q || q == i) W := by
  refine ⟨?_, ?_, h.kz⟩ <;> simp only [h1, Bool.or_false]
  · exact h.b0
  · exact h.fin
theorem DlK.below {X : World} {l : List (Int × Int)} {f : Nat → Bool} (h : DlK X b hold vw vr l f W) (hb : Below W.heap.size W W') : DlK X b hold vw vr l f W' :=
  ⟨fun e => bnext (h.b0 e) hb, fun e => by
    obtain ⟨v', q1, q2⟩ := h.fin e
    exact ⟨v', q1.below hb, owns_kp (N := fun _ => False) q2 (Kp.of_below hb) (fun _ _ e => e)⟩, h.kz.trans (Kp.of_below (N := fun _ => False) hb) (fun i e => .inl e.elim)⟩
/-- inside the second region of deliver -/
structure AqK (Z : World) (b : Nat) (hold : Int) (v1 vw vr : Value) (l : List (Opn × Value × Value)) (f : Nat → Bool) (W : World) : Prop where
  kz : Kp (fun k => k = b ∨ vr.ownBlock = some k) Z W
  k0 : f 10 = false → Kp (fun k => vr.ownBlock = some k) Z W
  bz : f 7 = false → f 10 = false → Below Z.heap.size Z W
  fin : f 10 = true → ∃ v, Bx W b 51 #[.int .i64 hold, v1, vw, v] ∧ AqV7 Z vr l W v
theorem AqK.nop {Z : World} {v1 : Value} {l : List (Opn × Value × Value)} {f : Nat → Bool} (h : AqK Z b hold v1 vw vr l f W) (i : Nat) (h1 : (10 == i) = false) (h2 : (7 == i) = false) : AqK Z b hold v1 vw vr l (fun q => f q || q == i) W := by
  refine ⟨h.kz, ?_, ?_, ?_⟩ <;> simp only [h1, h2, Bool.or_false]
  · exact h.k0
  · exact h.bz
  · exact h.fin
theorem AqK.below {Z : World} {v1 : Value} {l : List (Opn × Value × Value)} {f : Nat → Bool} (h : AqK Z b hold v1 vw vr l f W) (hb : Below W.heap.size W W') : AqK Z b hold v1 vw vr l f W' :=
  ⟨h.kz.trans (Kp.of_below (N := fun _ => False) hb) (fun i e => .inl e.elim), fun e => (h.k0 e).trans (Kp.of_below (N := fun _ => False) hb) (fun i e => .inl e.elim), fun e e' => bnext (h.bz e e') hb, fun e => by
    obtain ⟨v, q1, q2, q3⟩ := h.fin e
    exact ⟨v, q1.below hb, q2.kp (Kp.of_below (N := fun _ => False) hb) (fun _ _ e => e), q3⟩⟩
theorem AqK.app {Z : World} {v1 : Value} {l : List (Opn × Value × Value)} {f : Nat → Bool} (h : AqK Z b hold v1 vw vr l f W) (kk : Kp (fun k => vr.ownBlock = some k) W W') (h11 : f 10 = false) : AqK Z b hold v1 vw vr l (fun q => f q || q == 7) W' :=
  ⟨h.kz.trans kk (fun i e => .inl (.inr e)), fun e => (h.k0 h11).trans kk (fun i e => .inl e), fun e => by simp at e, fun e => by simp [h11] at e⟩
/-- what deliver leaves -/
def DelR (w0 : World) (P : Nat → Prop) (w : World) (b : Nat) (hold : Int) (vw : Value) (hv : List (Int × Int)) (ws rd : List (Opn × Value × Value)) (x : Opn × Value × Value) (e : Ending) (W : World) : Prop := e = .returned (.tuple #[]) ∧ (∃ vh' vr', QD w0 (fun i => P i ∨ w.heap.size ≤ i) W b hold vh' vw vr' (addV hv (dotO x.1)).1 ws (rd ++ [x])) ∧ Kp P w W
set_option maxRecDepth 100000 in
set_option maxHeartbeats 4000000 in
theorem refDeliver_in (h : QD w0 P w b hold vh vw vr hv ws rd) (x : Opn × Value × Value) (hx : ED w0 P w x) (hl : rd.length ≤ 1000000) :
    Calls Tryz.prog 55 #[.pointer (some ⟨b, 0, none⟩), opA x.1 x.2.1 x.2.2] w (DelR w0 P w b hold vw hv ws rd x) := by
  obtain ⟨o, vd, vg⟩ := x
  obtain ⟨ad, cd, hvd⟩ := RI.form hx.d
  obtain ⟨ag, cg, hvg⟩ := RC.form hx.g
  simp only at hvd hvg
  subst hvd hvg
  have hhl := h.hl
  have hvr := OwD.row h.rh
  obtain ⟨ah, ch, rfl⟩ := OwD.form h.rh
  have hdq : o.dq ≤ 9223372036854775807 := hx.inn.dq.2
  obtain ⟨nd, hnd⟩ : ∃ nd, o.deps.length = nd := ⟨_, rfl⟩
  obtain ⟨ng, hng⟩ : ∃ ng, o.gone.length = ng := ⟨_, rfl⟩
  obtain ⟨X0, hX0⟩ : ∃ X0, w.alloc (.cells #[.int .i64 o.ds, .int .i64 o.dq, .slice ad nd cd, .int .i64 o.kind, .int .i64 o.it, .int .i64 o.is, .int .i64 o.rt, .int .i64 o.rs, .string o.text, .slice ag ng cg, .int .i64 o.site] 42) = X0 := ⟨_, rfl⟩
  have b0 : Below w.heap.size w X0 := by rw [← hX0]; exact ballc (Below.refl _ _) _
  have B0 : Bx X0 w.heap.size 42 #[.int .i64 o.ds, .int .i64 o.dq, .slice ad nd cd, .int .i64 o.kind, .int .i64 o.it, .int .i64 o.is, .int .i64 o.rt, .int .i64 o.rs, .string o.text, .slice ag ng cg, .int .i64 o.site] := by rw [← hX0]; exact Bx.new _ _ _
  have hbl := h.box.lt
  have h0 := h.below b0
  obtain ⟨⟨hv2, er⟩, hAV⟩ : ∃ A, addV hv (o.ds, o.dq) = A := ⟨_, rfl⟩
  have hvl : hv2.length ≤ 17 := by have := addV_lenC hv (o.ds, o.dq); rw [hAV] at this; exact this
  have hneh : ∀ i, (Value.slice ah hv.length ch).ownBlock = some i → ¬ i = b := fun i hi e => own_ne_box h0.rh h0.box (by decide) (by rw [hi, e])
  have HVa : Hid (∀ W, Kp (fun i => i = b) X0 W → Calls Tryz.prog 24 #[.slice ah hv.length ch, .agg #[.int .i64 o.ds, .int .i64 o.dq]] W fun e W' => ∃ v', e = .returned (.tuple #[v', .int .i64 er]) ∧ OwD W' W.heap.size v' hv2 ∧ Below W.heap.size W W') := hide (fun W k => by
    have := refAdd_in (.slice ah hv.length ch) hv o.ds o.dq W (OwD.row (owns_kp h0.rh k hneh)) (by omega) hdq
    rw [hAV] at this
    exact this)
  have Hbx := hide h0.box
  have Hbl := hide (show b < X0.heap.size from h0.box.lt)
  have C1 : Hid (∀ W, Below X0.heap.size X0 W → W.cell? ⟨b, 1, none⟩ = some (.slice ah hv.length ch)) := hide (fun W k => (h0.box.below k).cell 1 _ rfl)
  have C2 : Hid (∀ W, Kp (fun i => i = b) X0 W → W.cell? ⟨w.heap.size, 0, none⟩ = some (.int .i64 o.ds)) := hide (fun W k => (B0.kp k (by omega)).cell 0 _ rfl)
  have C3 : Hid (∀ W, Kp (fun i => i = b) X0 W → W.cell? ⟨w.heap.size, 1, none⟩ = some (.int .i64 o.dq)) := hide (fun W k => (B0.kp k (by omega)).cell 1 _ rfl)
  have J0 : Hid (DlK X0 b hold vw vr hv2 (fun _ => false) X0.drew) := ⟨fun _ => (Below.refl _ _).drew, fun e => Bool.noConfusion e, Kp.of_below (Below.refl _ _).drew⟩
  have Hh := hide h
  have Hx := hide hx
  have HB0 := hide B0
  have Hb0 := hide b0
  unfold opA
  rw [hnd, hng]
  clear h hx h0 B0 b0 hvr
  go_enter Tryz.func55, Tryz.ntmps55
  go_wp2_with fail
  refine wp_region_any (by kernel_rfl) ?_
  change wpAny _ _ _ _ _ _ _ (World.drew _)
  refine region_sw 27 (fun j => if j = 13 then 100 else if j = 8 then 4 else if j < 8 then 5 + j else 4 + j) ((0, (Value.pointer (some { block := b, off := 0 }))) :: (3, (Value.pointer (some { block := w.heap.size, off := 0 }))) :: []) (DlK X0 b hold vw vr hv2) (valsOf [isV (Value.pointer (some { block := b, off := 0 })), isV (Value.pointer (some { block := b, off := 0 })), isV (Value.pointer (some { block := b, off := 0 })), isV (Value.pointer (some { block := b, off := 1 })), isV (Value.slice ah hv.length ch), isV (Value.pointer (some { block := w.heap.size, off := 0 })), isV (.agg #[.int .i64 o.ds, .int .i64 o.dq]), (DlV7 X0 er hv2), (DlV7 X0 er hv2), (fun W v => OwD W X0.heap.size v hv2), isV (.int .i64 er), isV (Value.pointer (some { block := b, off := 0 })), isV (Value.pointer (some { block := b, off := 1 })), (fun _ _ => True)]) (fun i w1 w2 => Kp (fun k => i = 13 ∧ k = b) w1 w2) [] ?fit ?stable ?none ?steps ?fin _ _ ?sz rfl ?base (unhide J0)
  case fit => kernel_rfl
  case sz => rfl
  case base => intro p hp; repeat (first | (rcases List.mem_cons.1 hp with rfl | hp; · rfl) | cases hp)
  case none =>
    intro j o' ho hdn w1 v
    have hj : j < 14 := (Array.getElem?_eq_some_iff.1 ho).1
    obtain rfl | rfl | rfl | rfl | rfl | rfl | rfl | rfl | rfl | rfl | rfl | rfl | rfl | rfl : j = 0 ∨ j = 1 ∨ j = 2 ∨ j = 3 ∨ j = 4 ∨ j = 5 ∨ j = 6 ∨ j = 7 ∨ j = 8 ∨ j = 9 ∨ j = 10 ∨ j = 11 ∨ j = 12 ∨ j = 13 := by omega
    all_goals first | exact trivial | (exfalso; have e := Option.some.inj ho; rw [← e] at hdn; cases hdn)
  case stable =>
    intro j i f w1 w2 v hfj hfi hJ hv hG
    refine valsOf_stable (J := fun _ => True) (G := fun w1 w2 => Kp (fun k => i = 13 ∧ k = b) w1 w2) (Stables.all ?_) j w1 w2 v trivial hv hG
    have hk : ∀ (w1 w2 : World) (v : Value), OwD w1 X0.heap.size v hv2 → Kp (fun k => i = 13 ∧ k = b) w1 w2 → OwD w2 X0.heap.size v hv2 := fun w1 w2 v q k => owns_kp q k (fun z hz e => by have := (q.lt z hz).1; have := unhide Hbl; omega)
    repeat (refine Stables.same ?_)
    refine Stables.other (fun w1 w2 v _ q k => by obtain ⟨v', q1, q2⟩ := q; exact ⟨v', q1, hk _ _ _ q2 k⟩) ?_
    refine Stables.other (fun w1 w2 v _ q k => by obtain ⟨v', q1, q2⟩ := q; exact ⟨v', q1, hk _ _ _ q2 k⟩) ?_
    refine Stables.other (fun w1 w2 v _ q k => hk _ _ _ q k) ?_
    repeat (refine Stables.same ?_)
    exact Stables.other (fun _ _ _ _ _ _ => trivial) Stables.nil
  case steps =>
    refine .cons (fun f ρ wz hf hfe hρ hJ hb hd => by
      refine StepU.ok (by decide) ?_
      have d0 : ρ (.tmp 0) = (Value.pointer (some { block := b, off := 0 })) := hb (0, _) (List.mem_of_getElem? (i := 0) rfl)
      exact step_move (.tmp 0) rfl ⟨Kp.refl _ _, hJ.nop 0 (by decide), d0⟩) ?_
    refine .cons (fun f ρ wz hf hfe hρ hJ hb hd => by
      refine StepU.ok (by decide) ?_
      have d0 : ρ (.tmp 0) = (Value.pointer (some { block := b, off := 0 })) := hb (0, _) (List.mem_of_getElem? (i := 0) rfl)
      exact step_move (.tmp 0) rfl ⟨Kp.refl _ _, hJ.nop 1 (by decide), d0⟩) ?_
    refine .cons (fun f ρ wz hf hfe hρ hJ hb hd => by
      refine StepU.ok (by decide) ?_
      have d0 : ρ (.tmp 6) = (Value.pointer (some { block := b, off := 0 })) := hd 0 _ rfl rfl
      exact step_val (v := (Value.pointer (some { block := b, off := 0 }))) (w' := wz) (by simp [go_sem, execOp, d0]) ⟨Kp.refl _ _, hJ.nop 2 (by decide), rfl⟩) ?_
    refine .cons (fun f ρ wz hf hfe hρ hJ hb hd => by
      refine StepU.ok (by decide) ?_
      have d0 : ρ (.tmp 7) = (Value.pointer (some { block := b, off := 0 })) := hd 0 _ rfl rfl
      exact step_val (v := (Value.pointer (some { block := b, off := 1 }))) (w' := wz) (by simp [go_sem, execOp, d0]) ⟨Kp.refl _ _, hJ.nop 3 (by decide), rfl⟩) ?_
    refine .cons (fun f ρ wz hf hfe hρ hJ hb hd => by
      refine StepU.ok (by decide) ?_
      have d0 : ρ (.tmp 8) = (Value.pointer (some { block := b, off := 1 })) := hd 0 _ rfl rfl
      have x0 := unhide C1 _ (hJ.b0 (hf 13 (.inr (by decide +kernel))))
      exact step_val (v := (Value.slice ah hv.length ch)) (w' := wz) (by simp [go_sem, execOp, d0, x0]) ⟨Kp.refl _ _, hJ.nop 4 (by decide), rfl⟩) ?_
    refine .cons (fun f ρ wz hf hfe hρ hJ hb hd => by
      refine StepU.ok (by decide) ?_
      have d0 : ρ (.tmp 3) = (Value.pointer (some { block := w.heap.size, off := 0 })) := hb (3, _) (List.mem_of_getElem? (i := 1) rfl)
      exact step_val (v := (Value.pointer (some { block := w.heap.size, off := 0 }))) (w' := wz) (by simp [go_sem, execOp, d0]) ⟨Kp.refl _ _, hJ.nop 5 (by decide), rfl⟩) ?_
    refine .cons (fun f ρ wz hf hfe hρ hJ hb hd => by
      refine StepU.ok (by decide) ?_
      have d0 : ρ (.tmp 10) = (Value.pointer (some { block := w.heap.size, off := 0 })) := hd 0 _ rfl rfl
      have x0 := unhide C2 _ hJ.kz
      have x1 := unhide C3 _ hJ.kz
      exact step_val (v := (.agg #[.int .i64 o.ds, .int .i64 o.dq])) (w' := wz) (by simp [go_sem, execOp, d0, x0, x1]) ⟨Kp.refl _ _, hJ.nop 6 (by decide), rfl⟩) ?_
    refine .cons (fun f ρ wz hf hfe hρ hJ hb hd => by
      refine StepU.ok (by decide) ?_
      have d0 : ρ (.tmp 9) = (Value.slice ah hv.length ch) := hd 0 _ rfl rfl
      have d1 : ρ (.tmp 11) = (.agg #[.int .i64 o.ds, .int .i64 o.dq]) := hd 1 _ rfl rfl
      refine step_func 24 _ _ #[Value.slice ah hv.length ch, .agg #[.int .i64 o.ds, .int .i64 o.dq]] hρ rfl (enters_of Tryz.func24 (by kernel_rfl) rfl) (by simp [d0, d1]) ?_
      refine (unhide HVa wz hJ.kz).mono ?_
      rintro r W' ⟨v', rfl, ho, hb2⟩
      exact ⟨_, rfl, Kp.of_below hb2, (hJ.below hb2).nop 7 (by decide), v', rfl, OwD.base ho hJ.kz.size⟩) ?_
    refine .cons (fun f ρ wz hf hfe hρ hJ hb hd => by
      refine StepU.ok (by decide) ?_
      exact step_move (.tmp 12) rfl ⟨Kp.refl _ _, hJ.nop 8 (by decide), hd 0 _ rfl rfl⟩) ?_
    refine .cons (fun f ρ wz hf hfe hρ hJ hb hd => by
      refine StepU.ok (by decide) ?_
      obtain ⟨v', d0, ho⟩ : DlV7 X0 er hv2 wz (ρ (.tmp 4)) := hd 0 _ rfl rfl
      exact step_val (v := v') (w' := wz) (by simp [go_sem, execOp, d0]) ⟨Kp.refl _ _, hJ.nop 9 (by decide), ho⟩) ?_
    refine .cons (fun f ρ wz hf hfe hρ hJ hb hd => by
      refine StepU.ok (by decide) ?_
      obtain ⟨v', d0, ho⟩ : DlV7 X0 er hv2 wz (ρ (.tmp 4)) := hd 0 _ rfl rfl
      exact step_val (v := .int .i64 er) (w' := wz) (by simp [go_sem, execOp, d0]) ⟨Kp.refl _ _, hJ.nop 10 (by decide), rfl⟩) ?_
    refine .cons (fun f ρ wz hf hfe hρ hJ hb hd => by
      refine StepU.ok (by decide) ?_
      have d0 : ρ (.tmp 5) = (Value.pointer (some { block := b, off := 0 })) := hd 0 _ rfl rfl
      exact step_val (v := (Value.pointer (some { block := b, off := 0 }))) (w' := wz) (by simp [go_sem, execOp, d0]) ⟨Kp.refl _ _, hJ.nop 11 (by decide), rfl⟩) ?_
    refine .cons (fun f ρ wz hf hfe hρ hJ hb hd => by
      refine StepU.ok (by decide) ?_
      have d0 : ρ (.tmp 15) = (Value.pointer (some { block := b, off := 0 })) := hd 0 _ rfl rfl
      exact step_val (v := (Value.pointer (some { block := b, off := 1 }))) (w' := wz) (by simp [go_sem, execOp, d0]) ⟨Kp.refl _ _, hJ.nop 12 (by decide), rfl⟩) ?_
    refine .cons (fun f ρ wz hf hfe hρ hJ hb hd => by
      have d0 : ρ (.tmp 16) = (Value.pointer (some { block := b, off := 1 })) := hd 0 _ rfl rfl
      have hown : OwD wz X0.heap.size (ρ (.tmp 13)) hv2 := hd 1 _ rfl rfl
      obtain ⟨av', cv', hv⟩ := OwD.form hown
      rw [hv] at hown
      have bx := (unhide Hbx).below (hJ.b0 (hf 13 (.inl rfl)))
      have x0 := bx.cell 1 _ rfl
      have x1 := bx.frozen 1
      have x2 := bx.lt
      have k := Kp.set (N := fun i => i = b) wz ⟨b, 1, none⟩ (.slice av' hv2.length cv') rfl
      refine StepU.st _ (.tmp 16) (.tmp 13) rfl rfl (w' := wz.setCell ⟨b, 1, none⟩ (.slice av' hv2.length cv')) (by rw [d0, hv]; simp [go_sem, x0, x1, x2]) ⟨k.wk (fun i hi => ⟨rfl, hi⟩), ⟨fun e => by simp at e, fun _ => ⟨.slice av' hv2.length cv', ?_, ?_⟩, hJ.kz.trans k (fun i e => .inl e)⟩, trivial⟩
      · have hb2 := bx.set 1 (.slice av' hv2.length cv')
        simpa using hb2
      · exact owns_kp hown k (fun i hi e => by have := (hown.lt i hi).1; have := unhide Hbl; omega)) ?_
    exact .nil _
  case fin =>
    intro a W1 hsz2 hds hb hJ hv
    obtain ⟨f, hf, hJ⟩ := hJ
    obtain ⟨v1, bx1, ho1⟩ := hJ.fin (hf 13 (by decide))
    have k1 := hJ.kz
    have e0 : a.eval (.tmp 0) = (Value.pointer (some { block := b, off := 0 })) := hb (0, _) (List.mem_of_getElem? (i := 0) rfl)
    have e3 : a.eval (.tmp 3) = (Value.pointer (some { block := w.heap.size, off := 0 })) := hb (3, _) (List.mem_of_getElem? (i := 1) rfl)
    clear hv hb hJ hf
    obtain ⟨u, rfl⟩ : ∃ u : Nat → Value, a = ⟨#[u 0, u 1, u 2, u 3, u 4, u 5, u 6, u 7, u 8, u 9, u 10, u 11, u 12, u 13, u 14, u 15, u 16, u 17, u 18, u 19, u 20, u 21, u 22, u 23, u 24, u 25, u 26], []⟩ := ⟨fun k => a.eval (.tmp k), frame_fn 27 hsz2 hds⟩
    change u 0 = _ at e0
    change u 3 = _ at e3
    rw [e0, e3]
    clear e0 e3 HVa C1 C2 C3 J0
    have Hbx1 := hide bx1
    have Hbl1 := hide (show b < W1.heap.size from bx1.lt)
    have hvl0 : ∀ i, vr.ownBlock = some i → i < w.heap.size := fun i hi => (unhide Hh).rr.lt i hi
    have k01 : Kp (fun i => i = b) w W1 := (Kp.of_below (unhide Hb0)).trans k1 (fun i e => .inl e)
    have hbv : vr.ownBlock ≠ some b := fun e => by
      obtain ⟨cur, hc⟩ := (unhide Hh).rr.kind _ e
      exact Bx.apart hc (unhide Hh).box (by decide) rfl
    have Hbv := hide hbv
    have Hrr := hide ((unhide Hh).rr.kp k01 (fun i hi e => hbv (by rw [hi, e])))
    have Hone : Hid (∀ u ∈ encO (o, Value.slice ad nd cd, Value.slice ag ng cg), u.oneCell' = true) := hide (by rw [← hnd, ← hng]; exact (unhide Hx).one)
    have C1 : Hid (∀ W, Kp (fun k => vr.ownBlock = some k) W1 W → W.cell? ⟨b, 3, none⟩ = some vr) := hide (fun W k => (bx1.kp k hbv).cell 3 _ rfl)
    have hBX := (unhide HB0).kp k1 (by omega)
    have C2 : Hid (∀ W, Kp (fun k => k = b ∨ vr.ownBlock = some k) W1 W → W.cell? ⟨w.heap.size, 0, none⟩ = some (.int .i64 o.ds) ∧ W.cell? ⟨w.heap.size, 1, none⟩ = some (.int .i64 o.dq) ∧ W.cell? ⟨w.heap.size, 2, none⟩ = some (.slice ad nd cd) ∧ W.cell? ⟨w.heap.size, 3, none⟩ = some (.int .i64 o.kind) ∧ W.cell? ⟨w.heap.size, 4, none⟩ = some (.int .i64 o.it) ∧ W.cell? ⟨w.heap.size, 5, none⟩ = some (.int .i64 o.is) ∧ W.cell? ⟨w.heap.size, 6, none⟩ = some (.int .i64 o.rt) ∧ W.cell? ⟨w.heap.size, 7, none⟩ = some (.int .i64 o.rs) ∧ W.cell? ⟨w.heap.size, 8, none⟩ = some (.string o.text) ∧ W.cell? ⟨w.heap.size, 9, none⟩ = some (.slice ag ng cg) ∧ W.cell? ⟨w.heap.size, 10, none⟩ = some (.int .i64 o.site)) := hide (fun W k => by
      have q := hBX.kp k (fun e => e.elim (fun e => by omega) (fun e => by have := hvl0 _ e; omega))
      exact ⟨q.cell 0 _ rfl, q.cell 1 _ rfl, q.cell 2 _ rfl, q.cell 3 _ rfl, q.cell 4 _ rfl, q.cell 5 _ rfl, q.cell 6 _ rfl, q.cell 7 _ rfl, q.cell 8 _ rfl, q.cell 9 _ rfl, q.cell 10 _ rfl⟩)
    have J1 : Hid (AqK W1 b hold v1 vw vr (rd ++ [(o, Value.slice ad nd cd, Value.slice ag ng cg)]) (fun _ => false) W1.drew) := ⟨Kp.of_below (Below.refl _ _).drew, fun _ => Kp.of_below (Below.refl _ _).drew, fun _ _ => (Below.refl _ _).drew, fun e => Bool.noConfusion e⟩
    have HO1 := hide ho1
    have K1 := hide k1
    have K01 := hide k01
    obtain ⟨ar, cr, hvr'⟩ := (unhide Hh).rr.form
    clear ho1 k1 k01 hBX bx1
    go_wp2_with fail
    refine wp_region_any (by kernel_rfl) ?_
    change wpAny _ _ _ _ _ _ _ (World.drew _)
    refine region_sw 27 (fun j => if j = 10 then 100 else 17 + j) ((0, (Value.pointer (some { block := b, off := 0 }))) :: (3, (Value.pointer (some { block := w.heap.size, off := 0 }))) :: []) (AqK W1 b hold v1 vw vr (rd ++ [(o, Value.slice ad nd cd, Value.slice ag ng cg)])) (valsOf [isV (Value.pointer (some { block := b, off := 0 })), isV (Value.pointer (some { block := b, off := 0 })), isV (Value.pointer (some { block := b, off := 0 })), isV (Value.pointer (some { block := b, off := 3 })), isV vr, isV (.agg #[.int .i64 o.ds, .int .i64 o.dq, .slice ad nd cd, .int .i64 o.kind, .int .i64 o.it, .int .i64 o.is, .int .i64 o.rt, .int .i64 o.rs, .string o.text, .slice ag ng cg, .int .i64 o.site]), (AqV6 W1 (o, .slice ad nd cd, .slice ag ng cg)), (AqV7 W1 vr (rd ++ [(o, Value.slice ad nd cd, Value.slice ag ng cg)])), isV (Value.pointer (some { block := b, off := 0 })), isV (Value.pointer (some { block := b, off := 3 })), (fun _ _ => True)]) (fun i w1 w2 => Kp (fun k => (i = 7 ∧ vr.ownBlock = some k) ∨ (i = 10 ∧ k = b)) w1 w2) [] ?fit ?stable ?none ?steps ?fin _ _ ?sz rfl ?base (unhide J1)
    case fit => kernel_rfl
    case sz => rfl
    case base => intro p hp; repeat (first | (rcases List.mem_cons.1 hp with rfl | hp; · rfl) | cases hp)
    case none =>
      intro j o' ho hdn w1 v
      have hj : j < 11 := (Array.getElem?_eq_some_iff.1 ho).1
      obtain rfl | rfl | rfl | rfl | rfl | rfl | rfl | rfl | rfl | rfl | rfl : j = 0 ∨ j = 1 ∨ j = 2 ∨ j = 3 ∨ j = 4 ∨ j = 5 ∨ j = 6 ∨ j = 7 ∨ j = 8 ∨ j = 9 ∨ j = 10 := by omega
      all_goals first | exact trivial | (exfalso; have e := Option.some.inj ho; rw [← e] at hdn; cases hdn)
    case stable =>
      intro j i f w1 w2 v hfj hfi hJ hv hG
      have hnz : ∀ k, ((i = 7 ∧ vr.ownBlock = some k) ∨ (i = 10 ∧ k = b)) → ¬ W1.heap.size ≤ k := fun k hk h => by
        rcases hk with ⟨_, hk⟩ | ⟨_, hk⟩
        · have := (unhide Hrr).lt k hk; omega
        · have := unhide Hbl1; omega
      rcases Nat.lt_or_ge j 11 with hj | hj
      · obtain rfl | rfl | rfl | rfl | rfl | rfl | rfl | rfl | rfl | rfl | rfl : j = 0 ∨ j = 1 ∨ j = 2 ∨ j = 3 ∨ j = 4 ∨ j = 5 ∨ j = 6 ∨ j = 7 ∨ j = 8 ∨ j = 9 ∨ j = 10 := by omega
        · exact hv
        · exact hv
        · exact hv
        · exact hv
        · exact hv
        · exact hv
        · obtain ⟨nb, q2, q3, q4⟩ := hv
          exact ⟨nb, q2, q3, q4.kp hG (fun e => hnz _ e q3)⟩
        · obtain ⟨q2, q3⟩ := hv
          refine ⟨q2.kp hG (fun k hk e => ?_), q3⟩
          rcases e with ⟨e, _⟩ | ⟨_, e⟩
          · rw [e] at hfi; rw [hfi] at hfj; cases hfj
          · rcases q3 with q3 | ⟨k', q3, hk'⟩
            · exact unhide Hbv (by rw [← q3, hk, e])
            · rw [q3] at hk; simp at hk; have := unhide Hbl1; omega
        · exact hv
        · exact hv
        · exact trivial
      · unfold valsOf
        rw [List.getD_eq_getElem?_getD, List.getElem?_eq_none (by simpa using hj)]
        exact trivial
    case steps =>
      refine .cons (fun f ρ wz hf hfe hρ hJ hb hd => by
        refine StepU.ok (by decide) ?_
        have d0 : ρ (.tmp 0) = (Value.pointer (some { block := b, off := 0 })) := hb (0, _) (List.mem_of_getElem? (i := 0) rfl)
        exact step_move (.tmp 0) rfl ⟨Kp.refl _ _, hJ.nop 0 (by decide) (by decide), d0⟩) ?_
      refine .cons (fun f ρ wz hf hfe hρ hJ hb hd => by
        refine StepU.ok (by decide) ?_
        have d0 : ρ (.tmp 0) = (Value.pointer (some { block := b, off := 0 })) := hb (0, _) (List.mem_of_getElem? (i := 0) rfl)
        exact step_move (.tmp 0) rfl ⟨Kp.refl _ _, hJ.nop 1 (by decide) (by decide), d0⟩) ?_
      refine .cons (fun f ρ wz hf hfe hρ hJ hb hd => by
        refine StepU.ok (by decide) ?_
        have d0 : ρ (.tmp 18) = (Value.pointer (some { block := b, off := 0 })) := hd 0 _ rfl rfl
        exact step_val (v := (Value.pointer (some { block := b, off := 0 }))) (w' := wz) (by simp [go_sem, execOp, d0]) ⟨Kp.refl _ _, hJ.nop 2 (by decide) (by decide), rfl⟩) ?_
      refine .cons (fun f ρ wz hf hfe hρ hJ hb hd => by
        refine StepU.ok (by decide) ?_
        have d0 : ρ (.tmp 19) = (Value.pointer (some { block := b, off := 0 })) := hd 0 _ rfl rfl
        exact step_val (v := (Value.pointer (some { block := b, off := 3 }))) (w' := wz) (by simp [go_sem, execOp, d0]) ⟨Kp.refl _ _, hJ.nop 3 (by decide) (by decide), rfl⟩) ?_
      refine .cons (fun f ρ wz hf hfe hρ hJ hb hd => by
        refine StepU.ok (by decide) ?_
        have d0 : ρ (.tmp 20) = (Value.pointer (some { block := b, off := 3 })) := hd 0 _ rfl rfl
        have x0 := unhide C1 _ (hJ.k0 (hf 10 (.inr (by decide +kernel))))
        exact step_val (v := (vr)) (w' := wz) (by simp [go_sem, execOp, d0, x0]) ⟨Kp.refl _ _, hJ.nop 4 (by decide) (by decide), rfl⟩) ?_
      refine .cons (fun f ρ wz hf hfe hρ hJ hb hd => by
        refine StepU.ok (by decide) ?_
        have d0 : ρ (.tmp 3) = (Value.pointer (some { block := w.heap.size, off := 0 })) := hb (3, _) (List.mem_of_getElem? (i := 1) rfl)
        obtain ⟨x0, x1, x2, x3, x4, x5, x6, x7, x8, x9, x10⟩ := unhide C2 _ hJ.kz
        exact step_val (v := (.agg #[.int .i64 o.ds, .int .i64 o.dq, .slice ad nd cd, .int .i64 o.kind, .int .i64 o.it, .int .i64 o.is, .int .i64 o.rt, .int .i64 o.rs, .string o.text, .slice ag ng cg, .int .i64 o.site])) (w' := wz) (by simp [go_sem, execOp, d0, x0, x1, x2, x3, x4, x5, x6, x7, x8, x9, x10]) ⟨Kp.refl _ _, hJ.nop 5 (by decide) (by decide), rfl⟩) ?_
      refine .cons (fun f ρ wz hf hfe hρ hJ hb hd => by
        refine StepU.ok (by decide) ?_
        have d0 : ρ (.tmp 22) = .agg #[.int .i64 o.ds, .int .i64 o.dq, .slice ad nd cd, .int .i64 o.kind, .int .i64 o.it, .int .i64 o.is, .int .i64 o.rt, .int .i64 o.rs, .string o.text, .slice ag ng cg, .int .i64 o.site] := hd 0 _ rfl rfl
        have al := ballc (Below.refl wz.heap.size wz) (.cells #[.int .i64 o.ds, .int .i64 o.dq, .slice ad nd cd, .int .i64 o.kind, .int .i64 o.it, .int .i64 o.is, .int .i64 o.rt, .int .i64 o.rs, .string o.text, .slice ag ng cg, .int .i64 o.site] 42)
        exact step_val (v := .slice (some ⟨wz.heap.size, 0, none⟩) 1 1) (w' := wz.alloc (.cells #[.int .i64 o.ds, .int .i64 o.dq, .slice ad nd cd, .int .i64 o.kind, .int .i64 o.it, .int .i64 o.is, .int .i64 o.rt, .int .i64 o.rs, .string o.text, .slice ag ng cg, .int .i64 o.site] 42)) (by simp [go_sem, execOp, d0]) ⟨Kp.of_below al, (hJ.below al).nop 6 (by decide) (by decide), wz.heap.size, rfl, hJ.kz.size, Bx.new _ _ _⟩) ?_
      refine .cons (fun f ρ wz hf hfe hρ hJ hb hd => by
        refine StepU.ok (by decide) ?_
        have d0 : ρ (.tmp 21) = vr := hd 0 _ rfl rfl
        obtain ⟨nb, d1, hnb, hbx⟩ : AqV6 W1 (o, .slice ad nd cd, .slice ag ng cg) wz (ρ (.tmp 23)) := hd 1 _ rfl rfl
        have h10 := hf 10 (.inr (by decide +kernel))
        have hbz := hJ.bz (hf 7 (.inl rfl)) h10
        obtain ⟨v', w', hr, hown, hgr, hat⟩ := append_rd wz 47 vr rd (o, .slice ad nd cd, .slice ag ng cg) nb ((unhide Hrr).kp (N := fun _ => False) (Kp.of_below hbz) (fun _ _ x => x)) hbx (unhide Hone) hl
        have kk := Kp.of_grown (N := fun k => vr.ownBlock = some k) hgr (fun k hk => hk)
        refine step_val (v := v') (w' := w') (run_appendO (.tmp 21) (.tmp 23) 47 rfl d0 d1 hr) ⟨kk.wk (fun i hi => .inl ⟨rfl, hi⟩), hJ.app kk h10, hown, ?_⟩
        rcases hat with hat | hat
        · exact .inl hat
        · exact .inr ⟨_, hat, hJ.kz.size⟩) ?_
      refine .cons (fun f ρ wz hf hfe hρ hJ hb hd => by
        refine StepU.ok (by decide) ?_
        have d0 : ρ (.tmp 17) = (Value.pointer (some { block := b, off := 0 })) := hd 0 _ rfl rfl
        exact step_val (v := (Value.pointer (some { block := b, off := 0 }))) (w' := wz) (by simp [go_sem, execOp, d0]) ⟨Kp.refl _ _, hJ.nop 8 (by decide) (by decide), rfl⟩) ?_
      refine .cons (fun f ρ wz hf hfe hρ hJ hb hd => by
        refine StepU.ok (by decide) ?_
        have d0 : ρ (.tmp 25) = (Value.pointer (some { block := b, off := 0 })) := hd 0 _ rfl rfl
        exact step_val (v := (Value.pointer (some { block := b, off := 3 }))) (w' := wz) (by simp [go_sem, execOp, d0]) ⟨Kp.refl _ _, hJ.nop 9 (by decide) (by decide), rfl⟩) ?_
      refine .cons (fun f ρ wz hf hfe hρ hJ hb hd => by
        have d0 : ρ (.tmp 26) = (Value.pointer (some { block := b, off := 3 })) := hd 0 _ rfl rfl
        obtain ⟨hown, hat⟩ : AqV7 W1 vr (rd ++ [(o, Value.slice ad nd cd, Value.slice ag ng cg)]) wz (ρ (.tmp 24)) := hd 1 _ rfl rfl
        obtain ⟨av', cv', hv⟩ := hown.form
        rw [hv] at hown hat
        have bx := (unhide Hbx1).kp (hJ.k0 (hf 10 (.inl rfl))) (unhide Hbv)
        have x0 := bx.cell 3 _ rfl
        have x1 := bx.frozen 3
        have x2 := bx.lt
        have k := Kp.set (N := fun i => i = b) wz ⟨b, 3, none⟩ (.slice av' (rd ++ [(o, Value.slice ad nd cd, Value.slice ag ng cg)]).length cv') rfl
        refine StepU.st _ (.tmp 26) (.tmp 24) rfl rfl (w' := wz.setCell ⟨b, 3, none⟩ (.slice av' (rd ++ [(o, Value.slice ad nd cd, Value.slice ag ng cg)]).length cv')) (by rw [d0, hv]; simp [go_sem, x0, x1, x2]) ⟨k.wk (fun i hi => .inr ⟨rfl, hi⟩), ⟨hJ.kz.trans k (fun i e => .inl (.inl e)), fun e => by simp at e, fun _ e => by simp at e, fun _ => ⟨_, by have := bx.set 3 (.slice av' (rd ++ [(o, Value.slice ad nd cd, Value.slice ag ng cg)]).length cv'); simpa using this, hown.kp k (fun i hi e => ?_), hat⟩⟩, trivial⟩
        rcases hat with hat | ⟨q, hat, hq⟩
        · exact unhide Hbv (by rw [← hat, hi, e])
        · rw [hat] at hi; simp at hi; have := unhide Hbl1; omega) ?_
      exact .nil _
    case fin =>
      intro a W5 hsz2 hds hb hJ hv
      obtain ⟨f, hf, hJ⟩ := hJ
      have hF := hide (hJ.fin (hf 10 (by decide)))
      have hK := hide hJ.kz
      obtain ⟨u, rfl⟩ : ∃ u : Nat → Value, a = ⟨#[u 0, u 1, u 2, u 3, u 4, u 5, u 6, u 7, u 8, u 9, u 10, u 11, u 12, u 13, u 14, u 15, u 16, u 17, u 18, u 19, u 20, u 21, u 22, u 23, u 24, u 25, u 26], []⟩ := ⟨fun k => a.eval (.tmp k), frame_fn 27 hsz2 hds⟩
      clear hJ hb hv hf hds hsz2 C1 C2 J1
      go_wp2
      refine bodyPost_end (results_none rfl _ _ _) rfl ?_
      obtain ⟨v, q1, q2, q3⟩ := unhide hF
      have h := unhide Hh
      have hx := unhide Hx
      have KW : Kp (fun k => k = b ∨ vr.ownBlock = some k) w W5 := ((unhide K01).wk (fun i e => .inl e)).trans (unhide hK) (fun i e => .inl e)
      have z1 := (unhide K01).size
      have zx := (unhide Hb0).size
      have hty : ∀ i, (i = b ∨ vr.ownBlock = some i) → ∃ t cur, Bx w i t cur ∧ t ≠ 28 ∧ t ≠ 72 := by
        intro i e
        rcases e with rfl | e
        · exact ⟨_, _, h.box, by decide, by decide⟩
        · obtain ⟨cur, hc⟩ := h.rr.kind _ e
          exact ⟨_, _, hc, by decide, by decide⟩
      have hxx : ED w0 P w (o, .slice ad nd cd, .slice ag ng cg) := by rw [← hnd, ← hng]; exact hx
      unfold DelR
      rw [show (addV hv (dotO o)).1 = hv2 by rw [show dotO o = (o.ds, o.dq) from rfl, hAV]]
      simp only [hnd, hng]
      refine ⟨by first | rfl | trivial, ⟨v1, v, q1, ?_, ?_, q2, ?_, ?_, .inl h.pb, ?_, fun k hk => .inl (h.pw k hk), ?_, ?_, by omega⟩, KW.wk (fun i e => e.elim (fun e => by rw [e]; exact h.pb) (fun e => h.pr i e))⟩
      · refine OwD.base (owns_kp (unhide HO1) (unhide hK) (fun i hi e => ?_)) (Nat.zero_le _)
        have hi2 := ((unhide HO1).lt i hi).1
        rcases e with rfl | e
        · have := unhide Hbl; omega
        · have := hvl0 i e; omega
      · refine owns_kp h.rw KW (fun i hi e => ?_)
        rcases e with rfl | e
        · exact own_ne_box h.rw h.box (by decide) hi
        · exact h.ap _ hi e
      · exact fun e he => ((h.we e he).kt KW hty).mono (fun i hi => .inl hi)
      · intro e he
        rcases List.mem_append.1 he with he | he
        · exact ((h.re e he).kt KW hty).mono (fun i hi => .inl hi)
        · simp only [List.mem_singleton] at he
          subst he
          exact (hxx.kt KW hty).mono (fun i hi => .inl hi)
      · intro k hk
        have := ((unhide HO1).lt k hk).1
        exact .inr (by omega)
      · intro k hk
        rcases q3 with q3 | ⟨k', q3, hk'⟩
        · exact .inl (h.pr k (by rw [← q3]; exact hk))
        · rw [q3] at hk
          simp at hk
          exact .inr (by omega)
      · intro k hk hk2
        rcases q3 with q3 | ⟨k', q3, hk'⟩
        · exact h.ap k hk (by rw [← q3]; exact hk2)
        · rw [q3] at hk2
          simp at hk2
          have := (h.rw.lt k hk).2
          omega
end Go.Proofs.YtkkolefionbbcaaGreat
