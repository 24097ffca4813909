/-
  The document's own Check of an operation, whole.
-/
import Derived.Test.YtkkolefionbbcaaGreatZR8
import Derived.Test.YtkkolefionbbcaaGreatZQW
import Derived.Deep.CutRange
set_option linter.unusedSimpArgs false
set_option linter.unusedVariables false
namespace Go.Proofs.YtkkolefionbbcaaGreat
open Go.RowKit Go.Lib

theorem rSite_b (n : Int) (w : World) : Calls Tryz.prog 80 #[.int .i64 n] w fun e W => e = .returned (.bool (isT n)) ∧ Below w.heap.size w W :=
  (rSite_in n w).mono (fun e W ⟨h1, h2⟩ => ⟨h1, by rw [← h2]; exact Below.refl _ _⟩)

set_option maxRecDepth 100000 in
set_option maxHeartbeats 16000000 in
theorem rCheck_in (o : Opn) (ad ag : Option Addr) (cd cg : Nat) (w : World) (hd : RI w (.slice ad o.deps.length cd) o.deps) (hg : RR w (.slice ag o.gone.length cg) o.gone) (hin : InO o) (hs1 : o.deps.length ≤ 1000000) (hs2 : o.gone.length ≤ 1000000) (hs3 : o.text.size ≤ 1000000) :
    Calls Tryz.prog 51 #[.agg #[.int .i64 o.ds, .int .i64 o.dq, .slice ad o.deps.length cd, .int .i64 o.kind, .int .i64 o.it, .int .i64 o.is, .int .i64 o.rt, .int .i64 o.rs, .string o.text, .slice ag o.gone.length cg, .int .i64 o.site]] w fun e W => e = .returned (.int .i64 (chkO o)) ∧ Below w.heap.size w W := by
  obtain ⟨X, hX⟩ : ∃ X, w.alloc (.cells #[.int .i64 o.ds, .int .i64 o.dq, .slice ad o.deps.length cd, .int .i64 o.kind, .int .i64 o.it, .int .i64 o.is, .int .i64 o.rt, .int .i64 o.rs, .string o.text, .slice ag o.gone.length cg, .int .i64 o.site] 42) = X := ⟨_, rfl⟩
  have HX : Bx X w.heap.size 42 #[.int .i64 o.ds, .int .i64 o.dq, .slice ad o.deps.length cd, .int .i64 o.kind, .int .i64 o.it, .int .i64 o.is, .int .i64 o.rt, .int .i64 o.rs, .string o.text, .slice ag o.gone.length cg, .int .i64 o.site] := by rw [← hX]; exact Bx.new w _ _
  have bX : Below w.heap.size w X := by rw [← hX]; exact ballc (Below.refl _ _) _
  have HA := hide (fun (W : World) (h : Below X.heap.size X W) => HX.below h)
  have HS := hide (fun W => rSite_b o.ds W)
  have HS2 := hide (fun W => rSite_b o.site W)
  have HC := hide (fun (W : World) (h : Below X.heap.size X W) => refCheck_in _ o.deps W ((hd.below bX).below h) (by omega))
  have HGt := hide (fun (W : World) (h : Below X.heap.size X W) => refGet_in _ o.deps o.ds W ((hd.below bX).below h) (by omega))
  have HRc := hide (fun (W : World) (h : Below X.heap.size X W) => refRCheck_in _ o.gone W (RC.below (RC.below hg bX) h) hin.gone (by omega))
  have HIs := hide (fun W => rInsert_in o (.slice ad o.deps.length cd) ag cg W hs3)
  have heq1 := hide (fun w => eqI o.it o.is 0 0 w)
  have heq2 := hide (fun w => eqI o.rt o.rs 0 0 w)
  have B0 := hide bX
  obtain ⟨R, hR⟩ : ∃ R, chkO o = R := ⟨_, rfl⟩
  rw [hR]
  have HR := hide (show R = if okO o = true then 0 else 10 from hR.symm)
  have Hok := hide (okO_kndX o)
  obtain ⟨x0, x1, x2, x3, x4, x5, x6, x7, x8, x9, x10⟩ := cells_op HX
  have hdq := hin.dq
  obtain ⟨ck, hck⟩ : ∃ c, chk o.deps = c := ⟨_, rfl⟩
  obtain ⟨gv, hgv⟩ : ∃ c, getV o.deps o.ds = c := ⟨_, rfl⟩
  obtain ⟨cr, hcr⟩ : ∃ c, chkR o.gone = c := ⟨_, rfl⟩
  rw [hck] at HC
  rw [hgv] at HGt
  rw [hcr] at HRc
  have Hck := hide hck
  have Hgv := hide hgv
  have Hcr := hide hcr
  have hne := BelowOf.ne X
  have mixed : Tryz.prog.follows .mixedOrders = true := by kernel_rfl
  have c0 : ∀ p : BelowOf X, p.w.cell? ⟨w.heap.size, 0, none⟩ = some (.int .i64 o.ds) := fun p => cell_below x0 p.h
  have c1 : ∀ p : BelowOf X, p.w.cell? ⟨w.heap.size, 1, none⟩ = some (.int .i64 o.dq) := fun p => cell_below x1 p.h
  have c2 : ∀ p : BelowOf X, p.w.cell? ⟨w.heap.size, 2, none⟩ = some (.slice ad o.deps.length cd) := fun p => cell_below x2 p.h
  clear hR bX HX hd hg hck hgv hcr hin x0 x1 x2 x3 x4 x5 x6 x7 x8 x9 x10
  cases h1 : isT o.ds with
  | false =>
    rw [h1] at HS
    obtain rfl : R = 10 := by rw [unhide HR, if_neg (by rw [unhide Hok]; unfold folO; simp [h1])]
    clear HR Hok
    go_enter Tryz.func51, Tryz.ntmps51
    go_wp2_with fail
    refine wp_region_quiet_below mixed (by kernel_rfl) ?_
    repeat (any_goals (first | go_big_quiet_step ((first | (go_at_call 80; exact below_of (unhide HS _)) | (go_at_call 34; exact below_of (unhide HC _ (BelowOf.h _))) | (go_at_call 23; exact below_of (unhide HGt _ (BelowOf.h _))))) | quiet_step ((first | (go_at_call 80; exact below_of (unhide HS _)) | (go_at_call 34; exact below_of (unhide HC _ (BelowOf.h _))) | (go_at_call 23; exact below_of (unhide HGt _ (BelowOf.h _)))))))
    all_goals (refine wpQuiet_nil ?_; intro _ hw'; obtain ⟨p, hw''⟩ := hw'; subst hw'')
    have HB := hide (bnext (unhide B0) p.h)
    go_wp2
    go_ret
    exact ⟨rfl, unhide HB⟩
  | true =>
    rw [h1] at HS
    by_cases h2 : 1 ≤ o.dq
    rotate_left
    · have h2' : o.dq < 1 := by omega
      obtain rfl : R = 10 := by rw [unhide HR, if_neg (by rw [unhide Hok]; unfold folO; simp [h2])]
      clear HR Hok
      go_enter Tryz.func51, Tryz.ntmps51
      go_wp2_with fail
      refine wp_region_quiet_below mixed (by kernel_rfl) ?_
      repeat (any_goals (first | go_big_quiet_step ((first | (go_at_call 80; exact below_of (unhide HS _)) | (go_at_call 34; exact below_of (unhide HC _ (BelowOf.h _))) | (go_at_call 23; exact below_of (unhide HGt _ (BelowOf.h _))))) | quiet_step ((first | (go_at_call 80; exact below_of (unhide HS _)) | (go_at_call 34; exact below_of (unhide HC _ (BelowOf.h _))) | (go_at_call 23; exact below_of (unhide HGt _ (BelowOf.h _)))))))
      all_goals (refine wpQuiet_nil ?_; intro _ hw'; obtain ⟨p, hw''⟩ := hw'; subst hw'')
      have HB := hide (bnext (unhide B0) p.h)
      go_wp2
      go_ret
      exact ⟨rfl, unhide HB⟩
    have h2d : decide (o.dq < 1) = false := by simp; omega
    by_cases h3 : o.dq ≤ 2147483647
    rotate_left
    · have h3' : (2147483647 : Int) < o.dq := by omega
      obtain rfl : R = 10 := by rw [unhide HR, if_neg (by rw [unhide Hok]; unfold folO; simp [h3])]
      clear HR Hok
      go_enter Tryz.func51, Tryz.ntmps51
      go_wp2_with fail
      refine wp_region_quiet_below mixed (by kernel_rfl) ?_
      repeat (any_goals (first | go_big_quiet_step ((first | (go_at_call 80; exact below_of (unhide HS _)) | (go_at_call 34; exact below_of (unhide HC _ (BelowOf.h _))) | (go_at_call 23; exact below_of (unhide HGt _ (BelowOf.h _))))) | quiet_step ((first | (go_at_call 80; exact below_of (unhide HS _)) | (go_at_call 34; exact below_of (unhide HC _ (BelowOf.h _))) | (go_at_call 23; exact below_of (unhide HGt _ (BelowOf.h _)))))))
      all_goals (refine wpQuiet_nil ?_; intro _ hw'; obtain ⟨p, hw''⟩ := hw'; subst hw'')
      have HB := hide (bnext (unhide B0) p.h)
      go_wp2
      go_ret
      exact ⟨rfl, unhide HB⟩
    have h3d : decide ((2147483647 : Int) < o.dq) = false := by simp; omega
    by_cases h4 : ck = 0
    rotate_left
    · have h4q : (ck == 0) = false := by simp [h4]
      obtain rfl : R = 10 := by rw [unhide HR, if_neg (by rw [unhide Hok]; unfold folO; simp [unhide Hck, h4])]
      clear HR Hok
      go_enter Tryz.func51, Tryz.ntmps51
      go_wp2_with fail
      refine wp_region_quiet_below mixed (by kernel_rfl) ?_
      repeat (any_goals (first | go_big_quiet_step ((first | (go_at_call 80; exact below_of (unhide HS _)) | (go_at_call 34; exact below_of (unhide HC _ (BelowOf.h _))) | (go_at_call 23; exact below_of (unhide HGt _ (BelowOf.h _))))) | quiet_step ((first | (go_at_call 80; exact below_of (unhide HS _)) | (go_at_call 34; exact below_of (unhide HC _ (BelowOf.h _))) | (go_at_call 23; exact below_of (unhide HGt _ (BelowOf.h _)))))))
      all_goals (refine wpQuiet_nil ?_; intro _ hw'; obtain ⟨p, hw''⟩ := hw'; subst hw'')
      have HB := hide (bnext (unhide B0) p.h)
      go_wp2
      go_ret
      exact ⟨rfl, unhide HB⟩
    subst h4
    have hw : IntKind.i64.wrap (o.dq - 1) = o.dq - 1 := IntWalk.i64_in _ (by omega)
    by_cases h5 : gv = o.dq - 1
    rotate_left
    · have h5q : (gv == o.dq - 1) = false := by simp [h5]
      obtain rfl : R = 10 := by rw [unhide HR, if_neg (by rw [unhide Hok]; unfold folO; simp [unhide Hgv, h5])]
      clear HR Hok
      go_enter Tryz.func51, Tryz.ntmps51
      go_wp2_with fail
      refine wp_region_quiet_below mixed (by kernel_rfl) ?_
      repeat (any_goals (first | go_big_quiet_step ((first | (go_at_call 80; exact below_of (unhide HS _)) | (go_at_call 34; exact below_of (unhide HC _ (BelowOf.h _))) | (go_at_call 23; exact below_of (unhide HGt _ (BelowOf.h _))))) | quiet_step ((first | (go_at_call 80; exact below_of (unhide HS _)) | (go_at_call 34; exact below_of (unhide HC _ (BelowOf.h _))) | (go_at_call 23; exact below_of (unhide HGt _ (BelowOf.h _)))))))
      all_goals (refine wpQuiet_nil ?_; intro _ hw'; obtain ⟨p, hw''⟩ := hw'; subst hw'')
      have HB := hide (bnext (unhide B0) p.h)
      go_wp2
      go_ret
      exact ⟨rfl, unhide HB⟩
    have hF : folO o.ds o.dq o.deps = true := by unfold folO; rw [h1, unhide Hck, unhide Hgv]; simp [h2, h3, h5]
    subst h5
    have HR2 := hide (show R = if kndX o = true then 0 else 10 by rw [unhide HR, unhide Hok, hF]; simp)
    clear HR Hok hF Hck Hgv h1
    go_enter Tryz.func51, Tryz.ntmps51
    go_wp2_with fail
    refine wp_region_quiet_below mixed (by kernel_rfl) ?_
    repeat (any_goals (first | go_big_quiet_step ((first | (go_at_call 80; exact below_of (unhide HS _)) | (go_at_call 34; exact below_of (unhide HC _ (BelowOf.h _))) | (go_at_call 23; exact below_of (unhide HGt _ (BelowOf.h _))))) | quiet_step ((first | (go_at_call 80; exact below_of (unhide HS _)) | (go_at_call 34; exact below_of (unhide HC _ (BelowOf.h _))) | (go_at_call 23; exact below_of (unhide HGt _ (BelowOf.h _)))))))
    all_goals (refine wpQuiet_nil ?_; intro _ hw'; obtain ⟨p, hw''⟩ := hw'; subst hw'')
    have HB := hide (bnext (unhide B0) p.h)
    obtain ⟨x0, x1, x2, x3, x4, x5, x6, x7, x8, x9, x10⟩ := cells_op (unhide HA p.w p.h)
    obtain ⟨W1, hW1⟩ : ∃ W, W = p.w := ⟨_, rfl⟩
    have HBX := hide (show Below X.heap.size X W1 by rw [hW1]; exact p.h)
    rw [← hW1] at HB x0 x1 x2 x3 x4 x5 x6 x7 x8 x9 x10 ⊢
    clear c0 c1 c2 HS HC HGt hW1 h2d h3d hw
    go_upto_region 3 with fail
    obtain ⟨b, hb0⟩ : ∃ b, bareO o = b := ⟨_, rfl⟩
    go_cut [3] from 41 to 55 (fun v wx => v = .bool b ∧ wx = W1)
    case first =>
      have he1 := unhide heq1
      have he2 := unhide heq2
      rw [bare_iff] at hb0
      clear HR2 HB HBX HS2 HRc HIs heq1 heq2 HA
      by_cases k1 : (o.it, o.is) = (0, 0)
      · rw [decide_eq_true k1] at he1 hb0
        by_cases k2 : (o.rt, o.rs) = (0, 0)
        · rw [decide_eq_true k2] at he2 hb0
          by_cases k3 : o.text.size = 0
          · have k3q := toList_nil' k3
            obtain rfl : b = true := by rw [← hb0, decide_eq_true k3]; rfl
            clear k1 k2 k3 hb0
            go_wp2
            go_meet
            exact ⟨rfl, rfl⟩
          · have k3q := toList_pos' (s := o.text) (by omega)
            obtain rfl : b = false := by rw [← hb0, decide_eq_false k3]; rfl
            clear k1 k2 k3 hb0
            go_wp2
            go_meet
            exact ⟨rfl, rfl⟩
        · rw [decide_eq_false k2] at he2 hb0
          obtain rfl : b = false := by rw [← hb0]; rfl
          clear k1 k2 hb0
          go_wp2
          go_meet
          exact ⟨rfl, rfl⟩
      · rw [decide_eq_false k1] at he1 hb0
        obtain rfl : b = false := by rw [← hb0]; rfl
        clear k1 hb0
        go_wp2
        go_meet
        exact ⟨rfl, rfl⟩
    case rest =>
    obtain ⟨rfl, hwx⟩ := hcut
    replace hwx := hwx.symm
    subst hwx
    have Hb0 := hide hb0
    clear hb0 heq1 heq2
    by_cases q1 : o.kind = 1
    · have q1q : (o.kind == 1) = true := by simp [q1]
      have HR3 := hide (show R = if insX o = true then 0 else 10 by rw [unhide HR2]; unfold kndX; rw [if_pos q1])
      clear q1 HR2
      have HI := hide (unhide HIs W1)
      go_wp2_with fail
      refine (unhide HI).mono ?_
      rintro e W5 ⟨rfl, hb5⟩
      replace HB := hide (bnext (unhide HB) hb5)
      clear HI hb5 HIs
      cases k : insX o with
      | true =>
        obtain rfl : R = 0 := by rw [unhide HR3, k]; rfl
        go_wp2
        go_ret
        exact ⟨rfl, unhide HB⟩
      | false =>
        obtain rfl : R = 10 := by rw [unhide HR3, k]; rfl
        go_wp2
        go_ret
        exact ⟨rfl, unhide HB⟩
    have q1q : (o.kind == 1) = false := by simp [q1]
    by_cases q2 : o.kind = 2
    · have q2q : (o.kind == 2) = true := by simp [q2]
      have HR3 := hide (show R = if (b && decide (o.site = 0) && decide (1 ≤ o.gone.length) && decide (o.gone.length ≤ 1024) && decide (cr = 0)) = true then 0 else 10 by rw [unhide HR2]; unfold kndX; rw [if_neg q1, if_pos q2, unhide Hb0, unhide Hcr])
      clear q1 q2 HR2 HIs HS2
      cases b with
      | false =>
        obtain rfl : R = 10 := by rw [unhide HR3]; simp []
        go_wp2
        go_ret
        exact ⟨rfl, unhide HB⟩
      | true =>
        by_cases k1 : o.site = 0
        rotate_left
        · have k1q : (o.site == 0) = false := by simp [k1]
          obtain rfl : R = 10 := by rw [unhide HR3]; simp [k1]
          clear k1
          go_wp2
          go_ret
          exact ⟨rfl, unhide HB⟩
        have k1q : (o.site == 0) = true := by simp [k1]
        have K1 := hide k1
        clear k1
        by_cases k2 : 1 ≤ o.gone.length
        rotate_left
        · have k2d : decide ((1 : Int) ≤ (o.gone.length : Int)) = false := by simp; omega
          obtain rfl : R = 10 := by rw [unhide HR3, decide_eq_false k2]; simp
          go_wp2
          go_ret
          exact ⟨rfl, unhide HB⟩
        have k2' : (1 : Int) ≤ (o.gone.length : Int) := by omega
        by_cases k3 : o.gone.length ≤ 1024
        rotate_left
        · have k3d : decide ((o.gone.length : Int) ≤ 1024) = false := by simp; omega
          obtain rfl : R = 10 := by rw [unhide HR3, decide_eq_false k3]; simp
          go_wp2
          go_ret
          exact ⟨rfl, unhide HB⟩
        have k3' : (o.gone.length : Int) ≤ 1024 := by omega
        have HI := hide (unhide HRc W1 (unhide HBX))
        go_wp2_with fail
        refine (unhide HI).mono ?_
        rintro e W5 ⟨rfl, hb5⟩
        replace HB := hide (bnext (unhide HB) hb5)
        clear HI hb5 HRc
        by_cases k4 : cr = 0
        · obtain rfl : R = 0 := by rw [unhide HR3, decide_eq_true (unhide K1), decide_eq_true k2, decide_eq_true k3, decide_eq_true k4]; rfl
          subst k4
          go_wp2
          go_ret
          exact ⟨rfl, unhide HB⟩
        · obtain rfl : R = 10 := by rw [unhide HR3, decide_eq_false k4]; simp
          have k4q : (cr == 0) = false := by simp [k4]
          clear k4
          go_wp2
          go_ret
          exact ⟨rfl, unhide HB⟩
    have q2q : (o.kind == 2) = false := by simp [q2]
    by_cases q3 : o.kind = 3
    · have q3q : (o.kind == 3) = true := by simp [q3]
      have HR3 := hide (show R = if (b && decide (o.gone.length = 0) && isT o.site) = true then 0 else 10 by rw [unhide HR2]; unfold kndX; rw [if_neg q1, if_neg q2, if_pos q3, unhide Hb0])
      clear q1 q2 q3 HR2 HIs HRc
      cases b with
      | false =>
        obtain rfl : R = 10 := by rw [unhide HR3]; simp []
        go_wp2
        go_ret
        exact ⟨rfl, unhide HB⟩
      | true =>
        by_cases k1 : o.gone.length = 0
        rotate_left
        · have k1q : ((o.gone.length : Int) == 0) = false := beq_eq_false_iff_ne.2 (by omega)
          obtain rfl : R = 10 := by rw [unhide HR3, decide_eq_false k1]; simp
          clear k1
          go_wp2
          go_ret
          exact ⟨rfl, unhide HB⟩
        have k1q : ((o.gone.length : Int) == 0) = true := beq_iff_eq.2 (by omega)
        have K1 := hide k1
        clear k1
        have HI := hide (unhide HS2 W1)
        go_wp2_with fail
        refine (unhide HI).mono ?_
        rintro e W5 ⟨rfl, hb5⟩
        replace HB := hide (bnext (unhide HB) hb5)
        clear HI hb5 HS2
        cases k2 : isT o.site with
        | true =>
          obtain rfl : R = 0 := by rw [unhide HR3, decide_eq_true (unhide K1), k2]; rfl
          go_wp2
          go_ret
          exact ⟨rfl, unhide HB⟩
        | false =>
          obtain rfl : R = 10 := by rw [unhide HR3, k2]; simp
          go_wp2
          go_ret
          exact ⟨rfl, unhide HB⟩
    have q3q : (o.kind == 3) = false := by simp [q3]
    by_cases q4 : o.kind = 4
    · have q4q : (o.kind == 4) = true := by simp [q4]
      have HR3 := hide (show R = if (b && decide (o.gone.length = 0) && decide (o.site = 0)) = true then 0 else 10 by rw [unhide HR2]; unfold kndX; rw [if_neg q1, if_neg q2, if_neg q3, if_pos q4, unhide Hb0])
      clear q1 q2 q3 q4 HR2 HIs HRc HS2
      cases b with
      | false =>
        obtain rfl : R = 10 := by rw [unhide HR3]; simp []
        go_wp2
        go_ret
        exact ⟨rfl, unhide HB⟩
      | true =>
        by_cases k1 : o.gone.length = 0
        rotate_left
        · have k1q : ((o.gone.length : Int) == 0) = false := beq_eq_false_iff_ne.2 (by omega)
          obtain rfl : R = 10 := by rw [unhide HR3, decide_eq_false k1]; simp
          clear k1
          go_wp2
          go_ret
          exact ⟨rfl, unhide HB⟩
        have k1q : ((o.gone.length : Int) == 0) = true := beq_iff_eq.2 (by omega)
        by_cases k2 : o.site = 0
        · have k2q : (o.site == 0) = true := by simp [k2]
          obtain rfl : R = 0 := by rw [unhide HR3, decide_eq_true k1, decide_eq_true k2]; rfl
          clear k1 k2
          go_wp2
          go_ret
          exact ⟨rfl, unhide HB⟩
        · have k2q : (o.site == 0) = false := by simp [k2]
          obtain rfl : R = 10 := by rw [unhide HR3, decide_eq_false k2]; simp
          clear k1 k2
          go_wp2
          go_ret
          exact ⟨rfl, unhide HB⟩
    have q4q : (o.kind == 4) = false := by simp [q4]
    obtain rfl : R = 10 := by rw [unhide HR2]; unfold kndX; rw [if_neg q1, if_neg q2, if_neg q3, if_neg q4]; rfl
    clear q1 q2 q3 q4 HR2 HIs HRc HS2
    go_wp2
    go_ret
    exact ⟨rfl, unhide HB⟩

end Go.Proofs.YtkkolefionbbcaaGreat
