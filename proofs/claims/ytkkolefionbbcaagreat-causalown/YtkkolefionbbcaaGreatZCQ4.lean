/-
  A queue: fits, knows.
-/
import Derived.Test.YtkkolefionbbcaaGreatZXCQ0
import Derived.Test.YtkkolefionbbcaaGreatZQW
set_option linter.unusedSimpArgs false
set_option linter.unusedVariables false
namespace Go.Proofs.YtkkolefionbbcaaGreat
open Go.RowKit Go.Lib

abbrev opO (o : Opn) (vd vg : Value) : Obj := .cells #[.int .i64 o.ds, .int .i64 o.dq, vd, .int .i64 o.kind, .int .i64 o.it, .int .i64 o.is, .int .i64 o.rt, .int .i64 o.rs, .string o.text, vg, .int .i64 o.site] 42
variable {P N : Nat → Prop} {w W W' : World} {b : Nat} {hold : Int} {vh vw vr : Value} {hv : List (Int × Int)} {ws rd : List (Opn × Value × Value)}
theorem getV_le (l : List (Int × Int)) (s : Int) : 0 ≤ getV l s ∧ getV l s ≤ 2147483647 := by
  unfold getV
  split
  · exact ⟨(sy_good l).lo _, (sy_good l).hi _⟩
  · omega
set_option maxRecDepth 100000 in
set_option maxHeartbeats 4000000 in
theorem fits_in (h : QM P w b hold vh vw vr hv ws rd) (o : Opn) (vd vg : Value) (hd : RI w vd o.deps) (hl : o.deps.length ≤ 1000000) (hg : ∃ a n c, vg = .slice a n c) : Calls Tryz.prog 43 #[.pointer (some ⟨b, 0, none⟩), opA o vd vg] w fun e W => e = .returned (.bool (canO hv o)) ∧ Below w.heap.size w W := by
  have hhl := h.hl
  have hvr := OwD.row h.rh
  obtain ⟨ah, ch, rfl⟩ := OwD.form h.rh
  obtain ⟨ad, cd, rfl⟩ := hd.form
  obtain ⟨ag, ng, cg, rfl⟩ := hg
  obtain ⟨X0, hX0⟩ : ∃ X0, w.alloc (opO o (.slice ad o.deps.length cd) (.slice ag ng cg)) = X0 := ⟨_, rfl⟩
  have b0 : Below w.heap.size w X0 := by rw [← hX0]; exact ballc (Below.refl _ _) _
  have B0 : Bx X0 w.heap.size 42 #[.int .i64 o.ds, .int .i64 o.dq, .slice ad o.deps.length cd, .int .i64 o.kind, .int .i64 o.it, .int .i64 o.is, .int .i64 o.rt, .int .i64 o.rs, .string o.text, .slice ag ng cg, .int .i64 o.site] := by rw [← hX0]; exact Bx.new _ _ _
  have HG := hide (fun (W : World) (hb : Below X0.heap.size X0 W) => Get_in _ hv o.ds W (hvr.below (bnext b0 hb)) (by omega))
  have HC := hide (fun (W : World) (hb : Below X0.heap.size X0 W) => Covers_in _ _ hv o.deps W (hvr.below (bnext b0 hb)) (hd.below (bnext b0 hb)) (by omega) (by omega))
  have mixed : Tryz.prog.follows .mixedOrders = true := by kernel_rfl
  have hne := BelowOf.ne X0
  have k0 : ∀ p : BelowOf X0, p.w.cell? ⟨w.heap.size, 0, none⟩ = some (.int .i64 o.ds) := fun p => cell_below (B0.cell 0 _ rfl) p.h
  have k1 : ∀ p : BelowOf X0, p.w.cell? ⟨w.heap.size, 1, none⟩ = some (.int .i64 o.dq) := fun p => cell_below (B0.cell 1 _ rfl) p.h
  have k2 : ∀ p : BelowOf X0, p.w.cell? ⟨w.heap.size, 2, none⟩ = some (.slice ad o.deps.length cd) := fun p => cell_below (B0.cell 2 _ rfl) p.h
  have k3 : ∀ p : BelowOf X0, p.w.cell? ⟨b, 1, none⟩ = some (.slice ah hv.length ch) := fun p => cell_below (cell_below h.c1 b0) p.h
  have HB := hide b0
  obtain ⟨R, hR⟩ : ∃ R, canO hv o = R := ⟨_, rfl⟩
  rw [hR]
  unfold canO at hR
  obtain ⟨gv, hgv⟩ : ∃ gv, getV hv o.ds = gv := ⟨_, rfl⟩
  have hgb := getV_le hv o.ds
  rw [hgv] at HG hR hgb
  have hwr : IntKind.i64.wrap (gv + 1) = gv + 1 := by simp only [IntKind.wrap_i64]; omega
  obtain ⟨cv, hcv⟩ : ∃ cv, cov (sy hv) (sy o.deps) = cv := ⟨_, rfl⟩
  rw [hcv] at HC hR
  unfold opA
  clear h hd hvr b0 B0 hgv hcv
  by_cases he : gv + 1 = o.dq
  · have he' : (gv + 1 == o.dq) = true := by simpa using he
    obtain rfl : cv = R := by rw [← hR]; simp [he]
    clear hR he
    go_enter Tryz.func43, Tryz.ntmps43
    go_wp2_with fail
    refine wp_region_quiet_below mixed (by kernel_rfl) ?_
    repeat (any_goals (first | go_big_quiet_step ((first | (go_at_call 71; exact below_of (unhide HC _ (BelowOf.h _))) | (go_at_call 70; exact below_of (unhide HG _ (BelowOf.h _))))) | quiet_step ((first | (go_at_call 71; exact below_of (unhide HC _ (BelowOf.h _))) | (go_at_call 70; exact below_of (unhide HG _ (BelowOf.h _)))))))
    all_goals (refine wpQuiet_nil ?_; intro _ hw'; obtain ⟨p, hw''⟩ := hw'; subst hw'')
    have HBW := hide (bnext (unhide HB) p.h)
    go_wp2
    go_ret
    exact ⟨rfl, unhide HBW⟩
  · have he' : (gv + 1 == o.dq) = false := by simpa using he
    obtain rfl : false = R := by rw [← hR]; simp [he]
    clear hR he
    go_enter Tryz.func43, Tryz.ntmps43
    go_wp2_with fail
    refine wp_region_quiet_below mixed (by kernel_rfl) ?_
    repeat (any_goals (first | go_big_quiet_step ((first | (go_at_call 71; exact below_of (unhide HC _ (BelowOf.h _))) | (go_at_call 70; exact below_of (unhide HG _ (BelowOf.h _))))) | quiet_step ((first | (go_at_call 71; exact below_of (unhide HC _ (BelowOf.h _))) | (go_at_call 70; exact below_of (unhide HG _ (BelowOf.h _)))))))
    all_goals (refine wpQuiet_nil ?_; intro _ hw'; obtain ⟨p, hw''⟩ := hw'; subst hw'')
    have HBW := hide (bnext (unhide HB) p.h)
    go_wp2
    go_ret
    exact ⟨rfl, unhide HBW⟩

/-- the closure of knows -/
theorem clo_in (o : Opn) (ad : Option Addr) (nd cd : Nat) (ag : Option Addr) (ng cg db : Nat) (d0 d1 : Int) (w : World) (hb : Bx w db 28 #[.int .i64 d0, .int .i64 d1]) : Calls Tryz.prog 67 #[.agg #[.int .i64 o.ds, .int .i64 o.dq, .slice ad nd cd, .int .i64 o.kind, .int .i64 o.it, .int .i64 o.is, .int .i64 o.rt, .int .i64 o.rs, .string o.text, .slice ag ng cg, .int .i64 o.site], .pointer (some ⟨db, 0, none⟩)] w fun e W => e = .returned (.bool (decide (dotO o = (d0, d1)))) ∧ Below w.heap.size w W := by
  obtain ⟨R, hR⟩ : ∃ R, decide (dotO o = (d0, d1)) = R := ⟨_, rfl⟩
  rw [hR]
  have hb1 := hb.below (ballc (Below.refl _ w) (opO o (.slice ad nd cd) (.slice ag ng cg)))
  have e0 : (w.alloc (opO o (.slice ad nd cd) (.slice ag ng cg))).cell? ⟨db, 0, none⟩ = some (.int .i64 d0) := hb1.cell 0 _ rfl
  have e1 : (w.alloc (opO o (.slice ad nd cd) (.slice ag ng cg))).cell? ⟨db, 1, none⟩ = some (.int .i64 d1) := hb1.cell 1 _ rfl
  have hR' : (o.ds == d0 && o.dq == d1) = R := by
    rw [← hR]
    unfold dotO
    rw [Bool.eq_iff_iff]
    simp
  clear hR hb hb1
  by_cases h0 : d0 = o.ds
  · have h0' : (o.ds == d0) = true := by simp [h0]
    subst h0
    by_cases h1 : d1 = o.dq
    · have h1' : (o.dq == d1) = true := by simp [h1]
      subst h1
      obtain rfl : true = R := by rw [← hR', h0', h1']; rfl
      clear hR'
      go_enter Tryz.func67, Tryz.ntmps67
      go_wp2
      go_ret
      exact ⟨rfl, ballc (Below.refl _ _) _⟩
    · have h1' : (o.dq == d1) = false := by simpa using Ne.symm h1
      obtain rfl : false = R := by rw [← hR', h0', h1']; rfl
      clear hR'
      go_enter Tryz.func67, Tryz.ntmps67
      go_wp2
      go_ret
      exact ⟨rfl, ballc (Below.refl _ _) _⟩
  · have h0' : (o.ds == d0) = false := by simpa using Ne.symm h0
    obtain rfl : false = R := by rw [← hR', h0']; rfl
    clear hR'
    go_enter Tryz.func67, Tryz.ntmps67
    go_wp2
    go_ret
    exact ⟨rfl, ballc (Below.refl _ _) _⟩

end Go.Proofs.YtkkolefionbbcaaGreat
