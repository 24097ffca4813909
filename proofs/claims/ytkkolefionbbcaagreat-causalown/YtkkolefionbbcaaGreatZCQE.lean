/-
  A queue: Offer.
-/
import Derived.Test.YtkkolefionbbcaaGreatZCQD
set_option linter.unusedSimpArgs false
set_option linter.unusedVariables false
namespace Go.Proofs.YtkkolefionbbcaaGreat
open Go.RowKit Go.Lib

variable {P N : Nat → Prop} {w W W' : World} {b : Nat} {hold : Int} {vh vw vr : Value} {hv : List (Int × Int)} {ws rd : List (Opn × Value × Value)}
/-- what Offer answers and leaves -/
def OffA (P : Nat → Prop) (w : World) (b : Nat) (hold : Int) (hv : List (Int × Int)) (ws rd : List Opn) (o : Opn) (e : Ending) (W : World) : Prop := e = .returned (.tuple #[.int .i64 (offA hold hv ws rd o).1.1, .int .i64 (offA hold hv ws rd o).1.2]) ∧ (∃ vh' vw' vr' ws' rd', QM (fun i => P i ∨ w.heap.size ≤ i) W b hold vh' vw' vr' (offA hold hv ws rd o).2.1 ws' rd' ∧ ws'.map Prod.fst = (offA hold hv ws rd o).2.2.1 ∧ rd'.map Prod.fst = (offA hold hv ws rd o).2.2.2) ∧ Kp P w W
theorem Offer_nil (o : Opn) (ad ag : Option Addr) (nd cd ng cg : Nat) (w : World) : Calls Tryz.prog 15 #[.pointer none, .agg #[.int .i64 o.ds, .int .i64 o.dq, .slice ad nd cd, .int .i64 o.kind, .int .i64 o.it, .int .i64 o.is, .int .i64 o.rt, .int .i64 o.rs, .string o.text, .slice ag ng cg, .int .i64 o.site]] w fun e W => e = .returned (.tuple #[.int .i64 0, .int .i64 1]) ∧ Below w.heap.size w W := by
  go_enter Tryz.func15, Tryz.ntmps15
  go_wp2
  refine bodyPost_ret (results_tmp2 rfl _ _ _) rfl ?_
  exact ⟨rfl, ballc (Below.refl _ _) _⟩
set_option maxRecDepth 100000 in
set_option maxHeartbeats 4000000 in
theorem Offer_in (h : QM P w b hold vh vw vr hv ws rd) (o : Opn) (vd vg : Value) (hd : RI w vd o.deps) (hg : RR w vg o.gone) (h1 : o.deps.length ≤ 1000000) (h2 : o.gone.length ≤ 1000000) (h3 : o.text.size ≤ 1000000) (hin : InO o) (hh : 0 ≤ hold ∧ hold ≤ 256) (hl : ws.length + rd.length ≤ 900000) :
    Calls Tryz.prog 15 #[.pointer (some ⟨b, 0, none⟩), opA o vd vg] w (OffA P w b hold hv (ws.map Prod.fst) (rd.map Prod.fst) o) := by
  obtain ⟨ad, cd, rfl⟩ := hd.form
  obtain ⟨ag, cg, rfl⟩ := RC.form hg
  obtain ⟨X0, hX0⟩ : ∃ X0, w.alloc (.cells #[.int .i64 o.ds, .int .i64 o.dq, .slice ad o.deps.length cd, .int .i64 o.kind, .int .i64 o.it, .int .i64 o.is, .int .i64 o.rt, .int .i64 o.rs, .string o.text, .slice ag o.gone.length cg, .int .i64 o.site] 42) = X0 := ⟨_, rfl⟩
  have b0 : Below w.heap.size w X0 := by rw [← hX0]; exact ballc (Below.refl _ _) _
  have B0 : Bx X0 w.heap.size 42 #[.int .i64 o.ds, .int .i64 o.dq, .slice ad o.deps.length cd, .int .i64 o.kind, .int .i64 o.it, .int .i64 o.is, .int .i64 o.rt, .int .i64 o.rs, .string o.text, .slice ag o.gone.length cg, .int .i64 o.site] := by rw [← hX0]; exact Bx.new _ _ _
  have p0 : X0.cell? ⟨w.heap.size, 0, none⟩ = some (.int .i64 o.ds) := B0.cell 0 _ rfl
  have p1 : X0.cell? ⟨w.heap.size, 1, none⟩ = some (.int .i64 o.dq) := B0.cell 1 _ rfl
  have p2 : X0.cell? ⟨w.heap.size, 2, none⟩ = some (.slice ad o.deps.length cd) := B0.cell 2 _ rfl
  have p3 : X0.cell? ⟨w.heap.size, 3, none⟩ = some (.int .i64 o.kind) := B0.cell 3 _ rfl
  have p4 : X0.cell? ⟨w.heap.size, 4, none⟩ = some (.int .i64 o.it) := B0.cell 4 _ rfl
  have p5 : X0.cell? ⟨w.heap.size, 5, none⟩ = some (.int .i64 o.is) := B0.cell 5 _ rfl
  have p6 : X0.cell? ⟨w.heap.size, 6, none⟩ = some (.int .i64 o.rt) := B0.cell 6 _ rfl
  have p7 : X0.cell? ⟨w.heap.size, 7, none⟩ = some (.int .i64 o.rs) := B0.cell 7 _ rfl
  have p8 : X0.cell? ⟨w.heap.size, 8, none⟩ = some (.string o.text) := B0.cell 8 _ rfl
  have p9 : X0.cell? ⟨w.heap.size, 9, none⟩ = some (.slice ag o.gone.length cg) := B0.cell 9 _ rfl
  have p10 : X0.cell? ⟨w.heap.size, 10, none⟩ = some (.int .i64 o.site) := B0.cell 10 _ rfl
  have HC := hide (OCheck_in o (.slice ad o.deps.length cd) (.slice ag o.gone.length cg) X0 (hd.below b0) (RC.below hg b0) hin)
  have hwb : w.heap.size ≠ b := by have := h.box.lt; omega
  have HA : Hid (∀ r er hv' ws' rd' W, (∃ vh' vw' vr' wt rt, QM (fun i => P i ∨ w.heap.size ≤ i) W b hold vh' vw' vr' hv' wt rt ∧ wt.map Prod.fst = ws' ∧ rt.map Prod.fst = rd') → Kp P w W → offA hold hv (ws.map Prod.fst) (rd.map Prod.fst) o = ((r, er), hv', ws', rd') → OffA P w b hold hv (ws.map Prod.fst) (rd.map Prod.fst) o (.returned (.tuple #[.int .i64 r, .int .i64 er])) W) := hide (fun r er hv' ws' rd' W q k e => by
    unfold OffA
    rw [e]
    exact ⟨rfl, q, k⟩)
  obtain ⟨cr, hcr⟩ : ∃ cr, chkO o = cr := ⟨_, rfl⟩
  rw [hcr] at HC
  have Hcr := hide hcr
  have Hh := hide h
  have HB0 := hide B0
  have Hb0 := hide b0
  have Hd := hide hd
  have Hg := hide hg
  unfold opA at HC ⊢
  clear h hd hg B0 b0 hcr
  go_enter Tryz.func15, Tryz.ntmps15
  go_wp2_with fail
  refine (unhide HC).mono ?_
  rintro e W1 ⟨rfl, b1⟩
  have Hb1 := hide (bnext (unhide Hb0) b1)
  have HB1 := hide ((unhide HB0).below b1)
  clear HC b1 p0 p1 p2 p3 p4 p5 p6 p7 p8 p9 p10
  by_cases hc0 : cr = 0
  rotate_left
  · have hc0' : (cr == 0) = false := by simpa using hc0
    go_wp2
    refine bodyPost_ret (results_tmp2 rfl _ _ _) rfl ?_
    refine unhide HA _ _ _ _ _ _ ⟨_, _, _, _, _, ((unhide Hh).below (unhide Hb1)).mono (fun i hi => .inl hi), rfl, rfl⟩ (Kp.of_below (unhide Hb1)) ?_
    unfold offA
    rw [unhide Hcr, if_pos hc0]
  subst hc0
  have HK := hide (knows_in ((unhide Hh).below (unhide Hb1)) o.ds o.dq (by omega))
  have hB1 := unhide HB1
  have e0 : W1.cell? ⟨w.heap.size, 0, none⟩ = some (.int .i64 o.ds) := hB1.cell 0 _ rfl
  have e1 : W1.cell? ⟨w.heap.size, 1, none⟩ = some (.int .i64 o.dq) := hB1.cell 1 _ rfl
  obtain ⟨kn, hkn⟩ : ∃ kn, knwO hv (ws.map Prod.fst) (o.ds, o.dq) = kn := ⟨_, rfl⟩
  rw [hkn] at HK
  have Hkn := hide hkn
  clear hkn hB1
  go_wp2_with fail
  refine (unhide HK).mono ?_
  rintro e W2 ⟨rfl, b2⟩
  have Hb2 := hide (bnext (unhide Hb1) b2)
  have HB2 := hide ((unhide HB1).below b2)
  clear HK b2 e0 e1 HB1
  cases kn with
  | true =>
    go_wp2
    refine bodyPost_ret (results_tmp2 rfl _ _ _) rfl ?_
    refine unhide HA _ _ _ _ _ _ ⟨_, _, _, _, _, ((unhide Hh).below (unhide Hb2)).mono (fun i hi => .inl hi), rfl, rfl⟩ (Kp.of_below (unhide Hb2)) ?_
    unfold offA
    rw [unhide Hcr, if_neg (by simp), show dotO o = (o.ds, o.dq) from rfl, unhide Hkn, if_pos rfl]
  | false =>
    have hB2 := unhide HB2
    have p0 : W2.cell? ⟨w.heap.size, 0, none⟩ = some (.int .i64 o.ds) := hB2.cell 0 _ rfl
    have p1 : W2.cell? ⟨w.heap.size, 1, none⟩ = some (.int .i64 o.dq) := hB2.cell 1 _ rfl
    have p2 : W2.cell? ⟨w.heap.size, 2, none⟩ = some (.slice ad o.deps.length cd) := hB2.cell 2 _ rfl
    have p3 : W2.cell? ⟨w.heap.size, 3, none⟩ = some (.int .i64 o.kind) := hB2.cell 3 _ rfl
    have p4 : W2.cell? ⟨w.heap.size, 4, none⟩ = some (.int .i64 o.it) := hB2.cell 4 _ rfl
    have p5 : W2.cell? ⟨w.heap.size, 5, none⟩ = some (.int .i64 o.is) := hB2.cell 5 _ rfl
    have p6 : W2.cell? ⟨w.heap.size, 6, none⟩ = some (.int .i64 o.rt) := hB2.cell 6 _ rfl
    have p7 : W2.cell? ⟨w.heap.size, 7, none⟩ = some (.int .i64 o.rs) := hB2.cell 7 _ rfl
    have p8 : W2.cell? ⟨w.heap.size, 8, none⟩ = some (.string o.text) := hB2.cell 8 _ rfl
    have p9 : W2.cell? ⟨w.heap.size, 9, none⟩ = some (.slice ag o.gone.length cg) := hB2.cell 9 _ rfl
    have p10 : W2.cell? ⟨w.heap.size, 10, none⟩ = some (.int .i64 o.site) := hB2.cell 10 _ rfl
    have HCl := hide (clone_in o ad ag cd cg W2 ((unhide Hd).below (unhide Hb2)) (RC.below (unhide Hg) (unhide Hb2)) h1 h2 h3)
    clear hB2
    go_wp2_with fail
    refine (unhide HCl).mono ?_
    rintro e W3 ⟨vd', vg', rfl, ho3, hg3, b3⟩
    obtain ⟨a2, c2, rfl⟩ := OwD.form ho3
    obtain ⟨a3, c3, rfl⟩ := OwR.form hg3
    have hB3 := (unhide HB2).below b3
    have r0 : W3.cell? ⟨w.heap.size, 0, none⟩ = some (.int .i64 o.ds) := hB3.cell 0 _ rfl
    have r1 : W3.cell? ⟨w.heap.size, 1, none⟩ = some (.int .i64 o.dq) := hB3.cell 1 _ rfl
    have r2 : W3.cell? ⟨w.heap.size, 2, none⟩ = some (.slice ad o.deps.length cd) := hB3.cell 2 _ rfl
    have r3 : W3.cell? ⟨w.heap.size, 3, none⟩ = some (.int .i64 o.kind) := hB3.cell 3 _ rfl
    have r4 : W3.cell? ⟨w.heap.size, 4, none⟩ = some (.int .i64 o.it) := hB3.cell 4 _ rfl
    have r5 : W3.cell? ⟨w.heap.size, 5, none⟩ = some (.int .i64 o.is) := hB3.cell 5 _ rfl
    have r6 : W3.cell? ⟨w.heap.size, 6, none⟩ = some (.int .i64 o.rt) := hB3.cell 6 _ rfl
    have r7 : W3.cell? ⟨w.heap.size, 7, none⟩ = some (.int .i64 o.rs) := hB3.cell 7 _ rfl
    have r8 : W3.cell? ⟨w.heap.size, 8, none⟩ = some (.string o.text) := hB3.cell 8 _ rfl
    have r9 : W3.cell? ⟨w.heap.size, 9, none⟩ = some (.slice ag o.gone.length cg) := hB3.cell 9 _ rfl
    have r10 : W3.cell? ⟨w.heap.size, 10, none⟩ = some (.int .i64 o.site) := hB3.cell 10 _ rfl
    have f0 : W3.frozen? ⟨w.heap.size, 0, none⟩ = false := hB3.frozen 0
    have f1 : W3.frozen? ⟨w.heap.size, 1, none⟩ = false := hB3.frozen 1
    have f2 : W3.frozen? ⟨w.heap.size, 2, none⟩ = false := hB3.frozen 2
    have f3 : W3.frozen? ⟨w.heap.size, 3, none⟩ = false := hB3.frozen 3
    have f4 : W3.frozen? ⟨w.heap.size, 4, none⟩ = false := hB3.frozen 4
    have f5 : W3.frozen? ⟨w.heap.size, 5, none⟩ = false := hB3.frozen 5
    have f6 : W3.frozen? ⟨w.heap.size, 6, none⟩ = false := hB3.frozen 6
    have f7 : W3.frozen? ⟨w.heap.size, 7, none⟩ = false := hB3.frozen 7
    have f8 : W3.frozen? ⟨w.heap.size, 8, none⟩ = false := hB3.frozen 8
    have f9 : W3.frozen? ⟨w.heap.size, 9, none⟩ = false := hB3.frozen 9
    have f10 : W3.frozen? ⟨w.heap.size, 10, none⟩ = false := hB3.frozen 10
    obtain ⟨W4, hW4⟩ : ∃ W4, (((((((((((W3.setCell ⟨w.heap.size, 0, none⟩ (.int .i64 o.ds)).setCell ⟨w.heap.size, 1, none⟩ (.int .i64 o.dq)).setCell ⟨w.heap.size, 2, none⟩ (.slice a2 o.deps.length c2)).setCell ⟨w.heap.size, 3, none⟩ (.int .i64 o.kind)).setCell ⟨w.heap.size, 4, none⟩ (.int .i64 o.it)).setCell ⟨w.heap.size, 5, none⟩ (.int .i64 o.is)).setCell ⟨w.heap.size, 6, none⟩ (.int .i64 o.rt)).setCell ⟨w.heap.size, 7, none⟩ (.int .i64 o.rs)).setCell ⟨w.heap.size, 8, none⟩ (.string o.text)).setCell ⟨w.heap.size, 9, none⟩ (.slice a3 o.gone.length c3)).setCell ⟨w.heap.size, 10, none⟩ (.int .i64 o.site)) = W4 := ⟨_, rfl⟩
    have B4 : Bx W4 w.heap.size 42 #[.int .i64 o.ds, .int .i64 o.dq, .slice a2 o.deps.length c2, .int .i64 o.kind, .int .i64 o.it, .int .i64 o.is, .int .i64 o.rt, .int .i64 o.rs, .string o.text, .slice a3 o.gone.length c3, .int .i64 o.site] := by rw [← hW4]; exact hB3.set11
    have k34 : Kp (fun k => k = w.heap.size) W3 W4 := by rw [← hW4]; exact Kp.set11 ..
    have b24 : Below w.heap.size w W4 := k34.below (bnext (unhide Hb2) b3) (fun i e => by omega)
    have hQ4 := ((unhide Hh).below b24).mono (P' := fun i => P i ∨ w.heap.size ≤ i) (fun i hi => .inl hi)
    have z2 := (unhide Hb2).size
    have hB2l := (unhide HB2).lt
    have hap := (unhide Hh).fresh (x := (o, .slice a2 o.deps.length c2, .slice a3 o.gone.length c3)) (fun k hk => by have := (ho3.lt k hk).1; omega) (fun k hk => by have := (hg3.lt k hk).1; omega)
    have Hap := hide hap
    have oe4 : OE (fun i => P i ∨ w.heap.size ≤ i) W4 (o, .slice a2 o.deps.length c2, .slice a3 o.gone.length c3) := ⟨OwD.base (owns_kp ho3 k34 (fun i hi e => by have := (ho3.lt i hi).1; omega)) (Nat.zero_le _), OwR.base (owns_kp hg3 k34 (fun i hi e => by have := (hg3.lt i hi).1; omega)) (Nat.zero_le _), fun k hk => .inr (by have := (ho3.lt k hk).1; omega), fun k hk => .inr (by have := (hg3.lt k hk).1; omega), h1, h2, h3, hin⟩
    have s0 : W4.cell? ⟨w.heap.size, 0, none⟩ = some (.int .i64 o.ds) := B4.cell 0 _ rfl
    have s1 : W4.cell? ⟨w.heap.size, 1, none⟩ = some (.int .i64 o.dq) := B4.cell 1 _ rfl
    have s2 : W4.cell? ⟨w.heap.size, 2, none⟩ = some (.slice a2 o.deps.length c2) := B4.cell 2 _ rfl
    have s3 : W4.cell? ⟨w.heap.size, 3, none⟩ = some (.int .i64 o.kind) := B4.cell 3 _ rfl
    have s4 : W4.cell? ⟨w.heap.size, 4, none⟩ = some (.int .i64 o.it) := B4.cell 4 _ rfl
    have s5 : W4.cell? ⟨w.heap.size, 5, none⟩ = some (.int .i64 o.is) := B4.cell 5 _ rfl
    have s6 : W4.cell? ⟨w.heap.size, 6, none⟩ = some (.int .i64 o.rt) := B4.cell 6 _ rfl
    have s7 : W4.cell? ⟨w.heap.size, 7, none⟩ = some (.int .i64 o.rs) := B4.cell 7 _ rfl
    have s8 : W4.cell? ⟨w.heap.size, 8, none⟩ = some (.string o.text) := B4.cell 8 _ rfl
    have s9 : W4.cell? ⟨w.heap.size, 9, none⟩ = some (.slice a3 o.gone.length c3) := B4.cell 9 _ rfl
    have s10 : W4.cell? ⟨w.heap.size, 10, none⟩ = some (.int .i64 o.site) := B4.cell 10 _ rfl
    unfold opA
    have HQ4 := hide hQ4
    have Hoe4 := hide oe4
    have Hb4 := hide b24
    have HB4 := hide B4
    have HF := hide (fits_in hQ4 o (.slice a2 o.deps.length c2) (.slice a3 o.gone.length c3) (OwD.row oe4.d) h1 ⟨_, _, _, rfl⟩)
    unfold opA at HF
    obtain ⟨cn, hcn⟩ : ∃ cn, canO hv o = cn := ⟨_, rfl⟩
    rw [hcn] at HF
    have Hcn := hide hcn
    clear HCl hB3 ho3 hg3 b3 hap k34 b24 hQ4 oe4 hcn B4 p0 p1 p2 p3 p4 p5 p6 p7 p8 p9 p10
    go_wp2_with fail
    refine (unhide HF).mono ?_
    rintro e W5 ⟨rfl, b5⟩
    have hQ5 := (unhide HQ4).below b5
    have oe5 := (unhide Hoe4).below b5
    have hB5 := (unhide HB4).below b5
    have Hb5 := hide (bnext (unhide Hb4) b5)
    have t0 : W5.cell? ⟨w.heap.size, 0, none⟩ = some (.int .i64 o.ds) := hB5.cell 0 _ rfl
    have t1 : W5.cell? ⟨w.heap.size, 1, none⟩ = some (.int .i64 o.dq) := hB5.cell 1 _ rfl
    have t2 : W5.cell? ⟨w.heap.size, 2, none⟩ = some (.slice a2 o.deps.length c2) := hB5.cell 2 _ rfl
    have t3 : W5.cell? ⟨w.heap.size, 3, none⟩ = some (.int .i64 o.kind) := hB5.cell 3 _ rfl
    have t4 : W5.cell? ⟨w.heap.size, 4, none⟩ = some (.int .i64 o.it) := hB5.cell 4 _ rfl
    have t5 : W5.cell? ⟨w.heap.size, 5, none⟩ = some (.int .i64 o.is) := hB5.cell 5 _ rfl
    have t6 : W5.cell? ⟨w.heap.size, 6, none⟩ = some (.int .i64 o.rt) := hB5.cell 6 _ rfl
    have t7 : W5.cell? ⟨w.heap.size, 7, none⟩ = some (.int .i64 o.rs) := hB5.cell 7 _ rfl
    have t8 : W5.cell? ⟨w.heap.size, 8, none⟩ = some (.string o.text) := hB5.cell 8 _ rfl
    have t9 : W5.cell? ⟨w.heap.size, 9, none⟩ = some (.slice a3 o.gone.length c3) := hB5.cell 9 _ rfl
    have t10 : W5.cell? ⟨w.heap.size, 10, none⟩ = some (.int .i64 o.site) := hB5.cell 10 _ rfl
    clear HF b5 r0 r1 r2 r3 r4 r5 r6 r7 r8 r9 r10 s0 s1 s2 s3 s4 s5 s6 s7 s8 s9 s10 f0 f1 f2 f3 f4 f5 f6 f7 f8 f9 f10
    cases cn with
    | true =>
      have HD := hide (deliver_in hQ5 _ oe5 (unhide Hap) (by omega))
      unfold opA at HD
      clear hQ5 oe5 hB5
      go_wp2_with fail
      refine (unhide HD).mono ?_
      rintro e W6 ⟨rfl, ⟨vh6, vr6, q6⟩, k6⟩
      have z5 := (unhide Hb5).size
      have q6' := q6.mono (P' := fun i => P i ∨ w.heap.size ≤ i) (fun i hi => hi.elim id (fun e => .inr (by omega)))
      have HR := hide (release_in q6' (by rw [List.length_append, List.length_singleton]; omega))
      have K6 := hide k6
      clear HD q6 q6' k6 t0 t1 t2 t3 t4 t5 t6 t7 t8 t9 t10
      go_wp2_with fail
      refine (unhide HR).mono ?_
      rintro e W7 ⟨rfl, ⟨vh7, vw7, vr7, q7⟩, k7⟩
      have z6 := (unhide K6).size
      have q7' := hide (q7.mono (P' := fun i => P i ∨ w.heap.size ≤ i) (fun i hi => hi.elim id (fun e => .inr (by omega))))
      have K7 : Hid (Kp P w W7) := hide (((Kp.of_below (unhide Hb5)).trans (unhide K6) (fun i e => e)).trans k7 (fun i e => e))
      clear HR q7 k7
      go_wp2
      refine bodyPost_ret (results_tmp2 rfl _ _ _) rfl ?_
      refine unhide HA _ _ _ _ _ _ ⟨_, _, _, _, _, unhide q7', rfl, rfl⟩ (unhide K7) ?_
      have hm := relT_map ws.length (addV hv (dotO o)).1 ws (rd ++ [(o, Value.slice a2 o.deps.length c2, Value.slice a3 o.gone.length c3)])
      unfold offA
      rw [unhide Hcr, if_neg (by simp), show knwO hv (ws.map Prod.fst) (dotO o) = false from unhide Hkn, if_neg (by simp), unhide Hcn, if_pos rfl, List.length_map, show List.map Prod.fst rd ++ [o] = List.map Prod.fst (rd ++ [(o, Value.slice a2 o.deps.length c2, Value.slice a3 o.gone.length c3)]) by simp, ← hm]
    | false =>
      have HD := hide (await_in hQ5 _ oe5 (unhide Hap) (by omega) hh)
      unfold opA at HD
      clear hQ5 oe5 hB5
      go_wp2_with fail
      refine (unhide HD).mono ?_
      rintro e W6 ⟨rfl, ⟨vw6, q6⟩, k6⟩
      have z5 := (unhide Hb5).size
      have Q6 := hide (q6.mono (P' := fun i => P i ∨ w.heap.size ≤ i) (fun i hi => hi.elim id (fun e => .inr (by omega))))
      have K6 : Hid (Kp P w W6) := hide ((Kp.of_below (unhide Hb5)).trans k6 (fun i e => e))
      clear HD q6 k6 t0 t1 t2 t3 t4 t5 t6 t7 t8 t9 t10
      go_wp2
      refine bodyPost_ret (results_tmp2 rfl _ _ _) rfl ?_
      refine unhide HA _ _ _ _ _ _ ⟨_, _, _, _, _, unhide Q6, rfl, rfl⟩ (unhide K6) ?_
      unfold offA awR awW
      rw [unhide Hcr, if_neg (by simp), show knwO hv (ws.map Prod.fst) (dotO o) = false from unhide Hkn, if_neg (by simp), unhide Hcn, if_neg (by simp)]
      simp only [List.length_map]
      by_cases hlt : (ws.length : Int) < hold
      · simp only [if_pos hlt]
        simp
      · simp only [if_neg hlt]
        rw [cutI_map]
        simp

end Go.Proofs.YtkkolefionbbcaaGreat
