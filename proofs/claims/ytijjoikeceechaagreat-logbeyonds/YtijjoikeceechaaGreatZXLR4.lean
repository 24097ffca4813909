/-
  The document's own log: Add.
-/
import Derived.Test.YtijjoikeceechaaGreatZXLR0
import Derived.Test.YtijjoikeceechaaGreatZQW

set_option linter.unusedSimpArgs false
set_option linter.unusedVariables false
namespace Go.Proofs.YtijjoikeceechaaGreat
open Go.RowKit Go.Lib

set_option maxRecDepth 100000 in
set_option maxHeartbeats 8000000 in
theorem refAdd_in {Q : Nat → Prop} (ab : Option Addr) (cb : Nat) (vo : Value) (B H : List (Int × Int)) (O : List Opn) (o : Opn) (ad ag : Option Addr) (cd cg : Nat) (w : World) (hB : RI w (.slice ab B.length cb) B) (hO : RN Q w vo O) (hQ : ∀ i, Q i → i < w.heap.size) (hH : rvec B O = H) (lB : B.length ≤ 1000000) (lO : O.length ≤ 999999) (hd : RI w (.slice ad o.deps.length cd) o.deps) (hg : RR w (.slice ag o.gone.length cg) o.gone) (hin : InO o) (hs1 : o.deps.length ≤ 1000000) (hs2 : o.gone.length ≤ 1000000) (hs3 : o.text.size ≤ 1000000) (qd : ∀ k, rb (.slice ad o.deps.length cd) o.deps.length k → Q k) (qg : ∀ k, rb (.slice ag o.gone.length cg) o.gone.length k → Q k) :
    Calls Tryz.prog 31 #[.agg #[.slice ab B.length cb, vo], .agg #[.int .i64 o.ds, .int .i64 o.dq, .slice ad o.deps.length cd, .int .i64 o.kind, .int .i64 o.it, .int .i64 o.is, .int .i64 o.rt, .int .i64 o.rs, .string o.text, .slice ag o.gone.length cg, .int .i64 o.site]] w fun e W => ∃ vo', e = .returned (.tuple #[.agg #[.slice ab B.length cb, vo'], .int .i64 (addE H o)]) ∧ RN (fun i => Q i ∨ w.heap.size ≤ i) W vo' (if addE H o = 0 then O ++ [o] else O) ∧ Below w.heap.size w W := by
  obtain ⟨ao, co, rfl⟩ := rn_form hO
  obtain ⟨X, hX⟩ : ∃ X, w.alloc (.cells #[.slice ab B.length cb, .slice ao O.length co] 35) = X := ⟨_, rfl⟩
  have bX : Below w.heap.size w X := by rw [← hX]; exact ballc (Below.refl _ _) _
  have xX : Bx X w.heap.size 35 #[.slice ab B.length cb, .slice ao O.length co] := by rw [← hX]; exact Bx.new w _ _
  have sX := bX.size
  obtain ⟨Y, hY⟩ : ∃ Y, X.alloc (.cells #[.int .i64 o.ds, .int .i64 o.dq, .slice ad o.deps.length cd, .int .i64 o.kind, .int .i64 o.it, .int .i64 o.is, .int .i64 o.rt, .int .i64 o.rs, .string o.text, .slice ag o.gone.length cg, .int .i64 o.site] 45) = Y := ⟨_, rfl⟩
  have bY : Below X.heap.size X Y := by rw [← hY]; exact ballc (Below.refl _ _) _
  have yY : Bx Y (X.heap.size) 45 #[.int .i64 o.ds, .int .i64 o.dq, .slice ad o.deps.length cd, .int .i64 o.kind, .int .i64 o.it, .int .i64 o.is, .int .i64 o.rt, .int .i64 o.rs, .string o.text, .slice ag o.gone.length cg, .int .i64 o.site] := by rw [← hY]; exact Bx.new X _ _
  have sY := bY.size
  obtain ⟨Z, hZ⟩ : ∃ Z, Y.alloc (.cells #[.slice none 0 0, .slice none 0 0] 35) = Z := ⟨_, rfl⟩
  have bZ : Below Y.heap.size Y Z := by rw [← hZ]; exact ballc (Below.refl _ _) _
  have zZ : Bx Z (Y.heap.size) 35 #[.slice none 0 0, .slice none 0 0] := by rw [← hZ]; exact Bx.new Y _ _
  have BZ := bnext (bnext bX bY) bZ
  have XZ := (xX.below bY).below bZ
  have YZ := yY.below bZ
  have zs : Y.heap.size < Z.heap.size := zZ.lt
  have HCk := hide (rCheck_in o ad ag cd cg Z (hd.below BZ) (RC.below hg BZ) hin hs1 hs2 hs3)
  have HV := hide (fun (W : World) (hb : Below Z.heap.size Z W) => refVector_in _ _ B O W ((hB.below BZ).below hb) ((hO.below BZ).below hb) lB (by omega))
  rw [hH] at HV
  have lH : H.length ≤ 17 := by rw [← hH]; exact rvec_len _ _
  have HD := hide (hd.below BZ)
  have HO := hide (hO.below BZ)
  have HG := hide (RC.below hg BZ)
  replace BZ := hide BZ
  replace XZ := hide XZ
  replace YZ := hide YZ
  replace zZ := hide zZ
  have QD := hide qd
  have QG := hide qg
  clear hB hO hd hg hH bX xX bY yY bZ qd qg
  obtain ⟨y0, y1, y2, y3, y4, y5, y6, y7, y8, y9, y10⟩ := cells_op (unhide YZ)
  have yl := (unhide YZ).lt
  have wX : w.heap.size < X.heap.size := by rw [← hX]; simp
  have XY : X.heap.size < Y.heap.size := by rw [← hY]; simp
  -- a way out: the log is told as it was
  have HF : Hid (∀ (W : World), Below Z.heap.size Z W → addE H o ≠ 0 → RN (fun i => Q i ∨ w.heap.size ≤ i) ((W.setCell ⟨Y.heap.size, 0, none⟩ (.slice ab B.length cb)).setCell ⟨Y.heap.size, 1, none⟩ (.slice ao O.length co)) (.slice ao O.length co) (if addE H o = 0 then O ++ [o] else O) ∧ Below w.heap.size w ((W.setCell ⟨Y.heap.size, 0, none⟩ (.slice ab B.length cb)).setCell ⟨Y.heap.size, 1, none⟩ (.slice ao O.length co))) := by
    refine hide (fun W hb he => ?_)
    have k := kp2 W (Y.heap.size) (.slice ab B.length cb) (.slice ao O.length co)
    rw [if_neg he]
    exact ⟨(((unhide HO).below hb).kp k (fun i e q => by have := hQ i q; omega)).mono (fun i hi q => .inl q), k.below (bnext (unhide BZ) hb) (fun i e => by omega)⟩
  cases hok : okO o
  · have hck : chkO o = 10 := by unfold chkO; rw [hok]; rfl
    have hae : addE H o = 10 := addE_bad (by rw [hok]; decide)
    rw [hck] at HCk
    rw [hae] at HF ⊢
    clear HV HD HO HG QD QG hok hck hae
    go_enter Tryz.func31, Tryz.ntmps31
    go_wp2_with fail
    refine (unhide HCk).mono ?_
    rintro r W1 ⟨rfl, hb1⟩
    have x1 := (unhide XZ).below hb1
    have z1 := (unhide zZ).below hb1
    have c0 := x1.cell 0 _ rfl
    have c1 := x1.cell 1 _ rfl
    have d0 := z1.cell 0 _ rfl
    have d1 := z1.cell 1 _ rfl
    have f0 := z1.frozen 0
    have f1 := z1.frozen 1
    have l1 := x1.lt
    have l2 := z1.lt
    have x2 := hide (box2 z1 (.slice ab B.length cb) (.slice ao O.length co))
    have hf := hide (unhide HF W1 hb1 (by decide))
    clear HCk hb1 x1 z1 y0 y1 y2 y3 y4 y5 y6 y7 y8 y9 y10 hX hY hZ
    go_wp2
    refine bodyPost_ret (results_ct rfl _ _ (Y.heap.size) _ _ _ _ rfl (unhide x2) Tryz.underlying35 rfl sizeLg) rfl ?_
    exact ⟨_, rfl, (unhide hf).1, (unhide hf).2⟩
  have hck : chkO o = 0 := by unfold chkO; rw [hok]; rfl
  rw [hck] at HCk
  obtain ⟨od1, od2, od3⟩ := ok_dot hok
  have HCo0 := hide (fun (W : World) (v : Value) (hv : RI W v H) (hb : Below Z.heap.size Z W) => refCovers_in v _ H o.deps W hv ((unhide HD).below hb) (by omega) (by omega))
  cases hcv : cov (sy H) (sy o.deps)
  · have hae : addE H o = 9 := addE_cov hok hcv
    rw [hcv] at HCo0
    rw [hae] at HF ⊢
    clear HD HO HG QD QG hok hck hae hcv
    go_enter Tryz.func31, Tryz.ntmps31
    go_wp2_with fail
    refine (unhide HCk).mono ?_
    rintro r W1 ⟨rfl, hb1⟩
    have HV1 := hide (unhide HV W1 hb1)
    have x1 := (unhide XZ).below hb1
    have c0 := x1.cell 0 _ rfl
    have c1 := x1.cell 1 _ rfl
    have l1 := x1.lt
    have B1 := hide hb1
    clear HCk HV hb1 x1 y0 y1 y2 y3 y4 y5 y6 y7 y8 y9 y10 hX hY hZ
    go_wp2_with fail
    refine (unhide HV1).mono ?_
    rintro r W2 ⟨v2, rfl, ho2, hb2⟩
    obtain ⟨a2, c2, rfl⟩ := ho2.form
    have B2 := hide (bnext (unhide B1) hb2)
    have HCo := hide (fun (W : World) (hb : Below W2.heap.size W2 W) => unhide HCo0 W _ (ho2.row.below hb) (bnext (unhide B2) hb))
    have HGe := hide (fun (W : World) (hb : Below W2.heap.size W2 W) => refGet_in _ H o.ds W (ho2.row.below hb) (by omega))
    obtain ⟨p0, p1, p2, p3, p4, p5, p6, p7, p8, p9, p10⟩ := cells_op ((unhide YZ).below (unhide B2))
    have py := ((unhide YZ).below (unhide B2)).lt
    have hne := BelowOf.ne W2
    have mixed : Tryz.prog.follows .mixedOrders = true := by kernel_rfl
    have k0 : ∀ p : BelowOf W2, p.w.cell? ⟨X.heap.size, 0, none⟩ = some (.int .i64 o.ds) := fun p => cell_below p0 p.h
    have k1 : ∀ p : BelowOf W2, p.w.cell? ⟨X.heap.size, 1, none⟩ = some (.int .i64 o.dq) := fun p => cell_below p1 p.h
    have k2 : ∀ p : BelowOf W2, p.w.cell? ⟨X.heap.size, 2, none⟩ = some (.slice ad o.deps.length cd) := fun p => cell_below p2 p.h
    clear HV1 ho2 hb2 B1 HCo0 c0 c1 l1 p0 p1 p2 p3 p4 p5 p6 p7 p8 p9 p10
    go_wp2_with fail
    refine wp_region_quiet_below mixed (by kernel_rfl) ?_
    repeat (any_goals (first | go_big_quiet_step ((first | (go_at_call 53; exact below_of (unhide HCo _ (BelowOf.h _))) | (go_at_call 54; exact below_of (unhide HGe _ (BelowOf.h _))))) | quiet_step ((first | (go_at_call 53; exact below_of (unhide HCo _ (BelowOf.h _))) | (go_at_call 54; exact below_of (unhide HGe _ (BelowOf.h _)))))))
    all_goals (refine wpQuiet_nil ?_; intro _ hw'; obtain ⟨p, hw''⟩ := hw'; subst hw'')
    have HBW := bnext (unhide B2) p.h
    clear HCo HGe k0 k1 k2 hne B2
    have x1 := (unhide XZ).below HBW
    have z1 := (unhide zZ).below HBW
    have c0 := x1.cell 0 _ rfl
    have c1 := x1.cell 1 _ rfl
    have d0 := z1.cell 0 _ rfl
    have d1 := z1.cell 1 _ rfl
    have f0 := z1.frozen 0
    have f1 := z1.frozen 1
    have l1 := x1.lt
    have l2 := z1.lt
    have x2 := hide (box2 z1 (.slice ab B.length cb) (.slice ao O.length co))
    have hf := hide (unhide HF _ HBW (by decide))
    clear x1 z1 HBW
    go_wp2
    refine bodyPost_ret (results_ct rfl _ _ (Y.heap.size) _ _ _ _ rfl (unhide x2) Tryz.underlying35 rfl sizeLg) rfl ?_
    exact ⟨_, rfl, (unhide hf).1, (unhide hf).2⟩
  rw [hcv] at HCo0
  have hqw : o.dq - 1 ≤ 9223372036854775807 := by omega
  have har := addE_ref hok hcv
  by_cases hgv : getV H o.ds = o.dq - 1
  rotate_left
  · have hae : addE H o = 9 := by rw [har, if_neg hgv]
    rw [hae] at HF ⊢
    clear HD HO HG QD QG hok hck hae hcv har
    go_enter Tryz.func31, Tryz.ntmps31
    go_wp2_with fail
    refine (unhide HCk).mono ?_
    rintro r W1 ⟨rfl, hb1⟩
    have HV1 := hide (unhide HV W1 hb1)
    have x1 := (unhide XZ).below hb1
    have c0 := x1.cell 0 _ rfl
    have c1 := x1.cell 1 _ rfl
    have l1 := x1.lt
    have B1 := hide hb1
    clear HCk HV hb1 x1 y0 y1 y2 y3 y4 y5 y6 y7 y8 y9 y10 hX hY hZ
    go_wp2_with fail
    refine (unhide HV1).mono ?_
    rintro r W2 ⟨v2, rfl, ho2, hb2⟩
    obtain ⟨a2, c2, rfl⟩ := ho2.form
    have B2 := hide (bnext (unhide B1) hb2)
    have HCo := hide (fun (W : World) (hb : Below W2.heap.size W2 W) => unhide HCo0 W _ (ho2.row.below hb) (bnext (unhide B2) hb))
    have HGe := hide (fun (W : World) (hb : Below W2.heap.size W2 W) => refGet_in _ H o.ds W (ho2.row.below hb) (by omega))
    obtain ⟨p0, p1, p2, p3, p4, p5, p6, p7, p8, p9, p10⟩ := cells_op ((unhide YZ).below (unhide B2))
    have py := ((unhide YZ).below (unhide B2)).lt
    have hne := BelowOf.ne W2
    have mixed : Tryz.prog.follows .mixedOrders = true := by kernel_rfl
    have k0 : ∀ p : BelowOf W2, p.w.cell? ⟨X.heap.size, 0, none⟩ = some (.int .i64 o.ds) := fun p => cell_below p0 p.h
    have k1 : ∀ p : BelowOf W2, p.w.cell? ⟨X.heap.size, 1, none⟩ = some (.int .i64 o.dq) := fun p => cell_below p1 p.h
    have k2 : ∀ p : BelowOf W2, p.w.cell? ⟨X.heap.size, 2, none⟩ = some (.slice ad o.deps.length cd) := fun p => cell_below p2 p.h
    clear HV1 ho2 hb2 B1 HCo0 c0 c1 l1 p0 p1 p2 p3 p4 p5 p6 p7 p8 p9 p10
    obtain ⟨gv, hgv'⟩ : ∃ x, getV H o.ds = x := ⟨_, rfl⟩
    rw [hgv'] at HGe hgv
    have wq1 : wrap64 (o.dq - 1) = o.dq - 1 := IntWalk.wrap64_in (o.dq - 1) (by omega)
    have wq2 : IntKind.i64.wrap (o.dq - 1) = o.dq - 1 := IntWalk.i64_in (o.dq - 1) (by omega)
    have hgb : (gv == o.dq - 1) = false := by simpa using hgv
    clear hgv'
    go_wp2_with fail
    refine wp_region_quiet_below mixed (by kernel_rfl) ?_
    repeat (any_goals (first | go_big_quiet_step ((first | (go_at_call 53; exact below_of (unhide HCo _ (BelowOf.h _))) | (go_at_call 54; exact below_of (unhide HGe _ (BelowOf.h _))))) | quiet_step ((first | (go_at_call 53; exact below_of (unhide HCo _ (BelowOf.h _))) | (go_at_call 54; exact below_of (unhide HGe _ (BelowOf.h _)))))))
    all_goals (refine wpQuiet_nil ?_; intro _ hw'; obtain ⟨p, hw''⟩ := hw'; subst hw'')
    have HBW := bnext (unhide B2) p.h
    clear HCo HGe k0 k1 k2 hne B2
    have x1 := (unhide XZ).below HBW
    have z1 := (unhide zZ).below HBW
    have c0 := x1.cell 0 _ rfl
    have c1 := x1.cell 1 _ rfl
    have d0 := z1.cell 0 _ rfl
    have d1 := z1.cell 1 _ rfl
    have f0 := z1.frozen 0
    have f1 := z1.frozen 1
    have l1 := x1.lt
    have l2 := z1.lt
    have x2 := hide (box2 z1 (.slice ab B.length cb) (.slice ao O.length co))
    have hf := hide (unhide HF _ HBW (by decide))
    clear x1 z1 HBW
    go_wp2
    refine bodyPost_ret (results_ct rfl _ _ (Y.heap.size) _ _ _ _ rfl (unhide x2) Tryz.underlying35 rfl sizeLg) rfl ?_
    exact ⟨_, rfl, (unhide hf).1, (unhide hf).2⟩
  have hae : addE H o = 0 := by rw [har, if_pos hgv]
  rw [hae]
  clear hok hck hae hcv har HF
  go_enter Tryz.func31, Tryz.ntmps31
  go_wp2_with fail
  refine (unhide HCk).mono ?_
  rintro r W1 ⟨rfl, hb1⟩
  have HV1 := hide (unhide HV W1 hb1)
  have x1 := (unhide XZ).below hb1
  have c0 := x1.cell 0 _ rfl
  have c1 := x1.cell 1 _ rfl
  have l1 := x1.lt
  have B1 := hide hb1
  clear HCk HV hb1 x1 y0 y1 y2 y3 y4 y5 y6 y7 y8 y9 y10 hX hY hZ
  go_wp2_with fail
  refine (unhide HV1).mono ?_
  rintro r W2 ⟨v2, rfl, ho2, hb2⟩
  obtain ⟨a2, c2, rfl⟩ := ho2.form
  have B2 := hide (bnext (unhide B1) hb2)
  have HCo := hide (fun (W : World) (hb : Below W2.heap.size W2 W) => unhide HCo0 W _ (ho2.row.below hb) (bnext (unhide B2) hb))
  have HGe := hide (fun (W : World) (hb : Below W2.heap.size W2 W) => refGet_in _ H o.ds W (ho2.row.below hb) (by omega))
  obtain ⟨p0, p1, p2, p3, p4, p5, p6, p7, p8, p9, p10⟩ := cells_op ((unhide YZ).below (unhide B2))
  have py := ((unhide YZ).below (unhide B2)).lt
  have hne := BelowOf.ne W2
  have mixed : Tryz.prog.follows .mixedOrders = true := by kernel_rfl
  have k0 : ∀ p : BelowOf W2, p.w.cell? ⟨X.heap.size, 0, none⟩ = some (.int .i64 o.ds) := fun p => cell_below p0 p.h
  have k1 : ∀ p : BelowOf W2, p.w.cell? ⟨X.heap.size, 1, none⟩ = some (.int .i64 o.dq) := fun p => cell_below p1 p.h
  have k2 : ∀ p : BelowOf W2, p.w.cell? ⟨X.heap.size, 2, none⟩ = some (.slice ad o.deps.length cd) := fun p => cell_below p2 p.h
  clear HV1 ho2 hb2 B1 HCo0 c0 c1 l1 p0 p1 p2 p3 p4 p5 p6 p7 p8 p9 p10
  rw [hgv] at HGe
  have wq1 : wrap64 (o.dq - 1) = o.dq - 1 := IntWalk.wrap64_in (o.dq - 1) (by omega)
  have wq2 : IntKind.i64.wrap (o.dq - 1) = o.dq - 1 := IntWalk.i64_in (o.dq - 1) (by omega)
  go_wp2_with fail
  refine wp_region_quiet_below mixed (by kernel_rfl) ?_
  repeat (any_goals (first | go_big_quiet_step ((first | (go_at_call 53; exact below_of (unhide HCo _ (BelowOf.h _))) | (go_at_call 54; exact below_of (unhide HGe _ (BelowOf.h _))))) | quiet_step ((first | (go_at_call 53; exact below_of (unhide HCo _ (BelowOf.h _))) | (go_at_call 54; exact below_of (unhide HGe _ (BelowOf.h _)))))))
  all_goals (refine wpQuiet_nil ?_; intro _ hw'; obtain ⟨p, hw''⟩ := hw'; subst hw'')
  have HBW := bnext (unhide B2) p.h
  clear HCo HGe k0 k1 k2 hne B2
  clear wq1 wq2 mixed
  have hb3 := p.h
  generalize p.w = W3 at HBW hb3 ⊢
  have x3 := (unhide XZ).below HBW
  have y3 := (unhide YZ).below HBW
  have z3 := (unhide zZ).below HBW
  obtain ⟨ops, ro, hre, hrq, rfl, ao', co', hao⟩ := (unhide HO).below HBW
  simp only [Value.slice.injEq, List.length_map, true_and] at hao
  obtain ⟨rfl, rfl⟩ := hao
  rw [List.length_map] at x3 lO ro ⊢
  have hone : ∀ u ∈ flat encO ops, u.oneCell' = true := fun u hu => by
    obtain ⟨e, he, hu⟩ := flat_mem hu
    exact (hre e he).one u hu
  obtain ⟨v5, W5, hap5, ho5, hg5⟩ := app_nil 33 45 11 128 _ Tryz.underlying33 infoO rfl (by decide) W3 W3.heap.size 33 _ ops.length (flat encO ops) ro (flat_len encO_len ops) hone (Nat.le_refl _) (by unfold maxLen; omega) (by omega)
  obtain ⟨a5, c5, rfl⟩ := owns_form ho5
  have b5 : Below W3.heap.size W3 W5 := (Below.refl _ W3).grown hg5 (Nat.le_refl _) (fun k hk => by cases hk)
  obtain ⟨V, hV⟩ : ∃ V, W5.alloc (.cells #[.int .i64 o.ds, .int .i64 o.dq, .slice ad o.deps.length cd, .int .i64 o.kind, .int .i64 o.it, .int .i64 o.is, .int .i64 o.rt, .int .i64 o.rs, .string o.text, .slice ag o.gone.length cg, .int .i64 o.site] 45) = V := ⟨_, rfl⟩
  have bV : Below W5.heap.size W5 V := by rw [← hV]; exact ballc (Below.refl _ _) _
  have xV : Bx V W5.heap.size 45 #[.int .i64 o.ds, .int .i64 o.dq, .slice ad o.deps.length cd, .int .i64 o.kind, .int .i64 o.it, .int .i64 o.is, .int .i64 o.rt, .int .i64 o.rs, .string o.text, .slice ag o.gone.length cg, .int .i64 o.site] := by rw [← hV]; exact Bx.new W5 _ _
  have en : EN Q W3 (o, .slice ad o.deps.length cd, .slice ag o.gone.length cg) := ⟨(unhide HD).below HBW, RC.below (unhide HG) HBW, ⟨_, _, rfl⟩, ⟨_, _, rfl⟩, unhide QD, unhide QG, hs1, hs2⟩
  obtain ⟨v6, W6, hap6, ho6, hg6, hat6⟩ := append_op V 33 W3.heap.size _ ops (o, .slice ad o.deps.length cd, .slice ag o.gone.length cg) W5.heap.size (owns_kp (N := fun _ => False) ho5 (Kp.of_below bV) (fun _ _ e => e)) xV en.one (by have := (bnext b5 bV).size; omega) (by omega)
  have b6 : Below W3.heap.size W3 W6 := (bnext b5 bV).grown hg6 (bnext b5 bV).size (fun k hk => (ho5.lt k hk).1)
  obtain ⟨a6, c6, rfl⟩ := owns_form ho6
  obtain ⟨n6, hn6⟩ : ∃ n, (ops ++ [(o, Value.slice ad o.deps.length cd, Value.slice ag o.gone.length cg)]).length = n := ⟨_, rfl⟩
  rw [hn6] at hap6 ho6
  have x6 := x3.below b6
  have y5 := y3.below b5
  have z6 := z3.below b6
  obtain ⟨W7, hW7⟩ : ∃ W, W6.setCell ⟨w.heap.size, 1, none⟩ (.slice a6 n6 c6) = W := ⟨_, rfl⟩
  have x7 : Bx W7 w.heap.size 35 #[.slice ab B.length cb, .slice a6 n6 c6] := by rw [← hW7]; simpa using x6.set 1 (.slice a6 n6 c6)
  have k7 : Kp (fun k => k = w.heap.size) W6 W7 := by rw [← hW7]; exact Kp.set (N := fun k => k = w.heap.size) _ _ _ rfl
  have z7 := z6.kp k7 (by omega)
  have k8 := kp2 W7 Y.heap.size (.slice ab B.length cb) (.slice a6 n6 c6)
  have z8 := box2 z7 (.slice ab B.length cb) (.slice a6 n6 c6)
  have HR : Hid (RN (fun i => Q i ∨ w.heap.size ≤ i) ((W7.setCell ⟨Y.heap.size, 0, none⟩ (.slice ab B.length cb)).setCell ⟨Y.heap.size, 1, none⟩ (.slice a6 n6 c6)) (.slice a6 n6 c6) (if (0 : Int) = 0 then ops.map Prod.fst ++ [o] else ops.map Prod.fst) ∧ Below w.heap.size w ((W7.setCell ⟨Y.heap.size, 0, none⟩ (.slice ab B.length cb)).setCell ⟨Y.heap.size, 1, none⟩ (.slice a6 n6 c6))) := by
    have zw3 := HBW.size
    have kk : Kp (fun k => k = w.heap.size ∨ k = Y.heap.size) W6 ((W7.setCell ⟨Y.heap.size, 0, none⟩ (.slice ab B.length cb)).setCell ⟨Y.heap.size, 1, none⟩ (.slice a6 n6 c6)) := (k7.wk (fun i e => .inl e)).trans k8 (fun i e => .inl (.inr e))
    have kw : Kp (fun k => k = w.heap.size ∨ k = Y.heap.size) W3 ((W7.setCell ⟨Y.heap.size, 0, none⟩ (.slice ab B.length cb)).setCell ⟨Y.heap.size, 1, none⟩ (.slice a6 n6 c6)) := (Kp.of_below b6).trans kk (fun i e => .inl e)
    rw [if_pos rfl]
    refine hide ⟨⟨ops ++ [(o, Value.slice ad o.deps.length cd, Value.slice ag o.gone.length cg)], (by unfold RO; rw [hn6]; exact RC.of_owns (owns_kp ho6 kk (fun i hi e => by have := (ho6.lt i hi).1; omega))), fun e he => ?_, fun k hk => .inr (by have := (ho6.lt k hk.2).1; omega), by simp, _, _, by rw [hn6]⟩, kk.below (bnext (unhide BZ) (bnext HBW b6)) (fun i e => by omega)⟩
    have t : EN Q W3 e := by
      rcases List.mem_append.1 he with he | he
      · exact hre e he
      · simp only [List.mem_singleton] at he
        subst he
        exact en
    exact (t.kp kw (fun i e q => by have := hQ i q; omega)).mono (fun i _ q => .inl q)
  obtain ⟨p0, p1, p2, p3, p4, p5, p6, p7, p8, p9, p10⟩ := cells_op y5
  have pl := y5.lt
  have c1 := x3.cell 1 _ rfl
  have cl := x3.lt
  have d1 := x6.cell 1 _ rfl
  have df := x6.frozen 1
  have dl := x6.lt
  have e0 := x7.cell 0 _ rfl
  have e1 := x7.cell 1 _ rfl
  have el := x7.lt
  have g0 := z7.cell 0 _ rfl
  have g1 := z7.cell 1 _ rfl
  have gf0 := z7.frozen 0
  have gf1 := z7.frozen 1
  have gl := z7.lt
  replace z8 := hide z8
  replace hap5 := hide hap5
  replace hap6 := hide hap6
  clear hn6 HD HO HG QD QG ro hre hrq hone ho5 hg5 b5 bV xV en ho6 hg6 hat6 b6 x3 y3 z3 x6 y5 z6 x7 k7 z7 k8 HBW hb3 hgv
  go_wp2_with (at_builtin; first | (refine wpList_append_eq rfl _ _ 33 rfl _ _ _ _ rfl rfl (unhide hap5) ?_; clear hap5) | (refine wpList_append_eq rfl _ _ 33 rfl _ _ _ _ rfl rfl (unhide hap6) ?_; clear hap6))
  refine bodyPost_ret (results_ct rfl _ _ (Y.heap.size) _ _ _ _ rfl (unhide z8) Tryz.underlying35 rfl sizeLg) rfl ?_
  exact ⟨_, rfl, (unhide HR).1, (unhide HR).2⟩

end Go.Proofs.YtijjoikeceechaaGreat

/-
  The document's own log: Cut.
-/
set_option linter.unusedSimpArgs false
set_option linter.unusedVariables false
namespace Go.Proofs.YtijjoikeceechaaGreat
open Go.RowKit Go.Lib

/-- the document's log, in blocks of which Q holds -/
def LN (Q : Nat → Prop) (W : World) (x : Value) (B : List (Int × Int)) (O : List Opn) : Prop := ∃ ab cb vo, x = .agg #[.slice ab B.length cb, vo] ∧ RI W (.slice ab B.length cb) B ∧ (∀ k, rb (.slice ab B.length cb) B.length k → Q k) ∧ RN Q W vo O
theorem LN.kp {Q N : Nat → Prop} {W W' : World} {x : Value} {B : List (Int × Int)} {O : List Opn} (h : LN Q W x B O) (k : Kp N W W') (hn : ∀ i, N i → ¬ Q i) : LN Q W' x B O := by
  obtain ⟨ab, cb, vo, e, h1, h2, h3⟩ := h
  exact ⟨ab, cb, vo, e, RC.kpn h1 k (fun i hi e => hn i e (h2 i hi)), h2, h3.kp k hn⟩
theorem LN.below {Q : Nat → Prop} {W W' : World} {x : Value} {B : List (Int × Int)} {O : List Opn} (h : LN Q W x B O) (hb : Below W.heap.size W W') : LN Q W' x B O := h.kp (N := fun _ => False) (Kp.of_below hb) (fun _ h => h.elim)
theorem LN.mono {Q Q' : Nat → Prop} {W : World} {x : Value} {B : List (Int × Int)} {O : List Opn} (h : LN Q W x B O) (hq : ∀ i, i < W.heap.size → Q i → Q' i) : LN Q' W x B O := by
  obtain ⟨ab, cb, vo, e, h1, h2, h3⟩ := h
  exact ⟨ab, cb, vo, e, h1, fun k hk => hq k (rb_lt h1 hk) (h2 k hk), h3.mono hq⟩

set_option maxRecDepth 100000 in
set_option maxHeartbeats 8000000 in
theorem refCut_in {Q : Nat → Prop} (x v : Value) (B H l : List (Int × Int)) (O : List Opn) (w : World) (hx : LN Q w x B O) (hQ : ∀ i, Q i → i < w.heap.size) (hH : rvec B O = H) (lB : B.length ≤ 1000000) (lO : O.length ≤ 1000000) (hr : RI w v l) (hl : l.length ≤ 1000000) :
    Calls Tryz.prog 34 #[x, v] w fun e W => ∃ x' vg, e = .returned (.tuple #[x', vg, .int .i64 (cutE H l)]) ∧ LN (fun i => Q i ∨ w.heap.size ≤ i) W x' (if cutE H l = 0 then vec (mrg (sy B) (sy l)) else B) (if cutE H l = 0 then prL l false O else O) ∧ RN (fun i => Q i ∨ w.heap.size ≤ i) W vg (if cutE H l = 0 then prL l true O else []) ∧ Below w.heap.size w W := by
  obtain ⟨ab, cb, vo, rfl, hB, qB, hO⟩ := hx
  obtain ⟨av, cv, rfl⟩ := hr.form
  obtain ⟨ops, h1, h2, h3, rfl, ao, co, rfl⟩ := hO
  rw [List.length_map] at lO
  have hO : RN Q w (.slice ao ops.length co) (ops.map Prod.fst) := ⟨ops, h1, h2, h3, rfl, _, _, rfl⟩
  obtain ⟨X, hX⟩ : ∃ X, w.alloc (.cells #[.slice ab B.length cb, .slice ao ops.length co] 35) = X := ⟨_, rfl⟩
  have bX : Below w.heap.size w X := by rw [← hX]; exact ballc (Below.refl _ _) _
  have xX : Bx X w.heap.size 35 #[.slice ab B.length cb, .slice ao ops.length co] := by rw [← hX]; exact Bx.new w _ _
  obtain ⟨Y, hY⟩ : ∃ Y, X.alloc (.cells #[.slice none 0 0, .slice none 0 0] 35) = Y := ⟨_, rfl⟩
  have bY : Below X.heap.size X Y := by rw [← hY]; exact ballc (Below.refl _ _) _
  have yY : Bx Y X.heap.size 35 #[.slice none 0 0, .slice none 0 0] := by rw [← hY]; exact Bx.new X _ _
  have BY := bnext bX bY
  have wX : w.heap.size < X.heap.size := by rw [← hX]; simp
  have XY : X.heap.size < Y.heap.size := by rw [← hY]; simp
  have HCk := hide (refCheck_in _ l Y (hr.below BY) (by omega))
  have HV := hide (fun (W : World) (hb : Below Y.heap.size Y W) => refVector_in _ _ B (ops.map Prod.fst) W ((hB.below BY).below hb) ((hO.below BY).below hb) lB (by rw [List.length_map]; exact lO))
  rw [hH] at HV
  have lH : H.length ≤ 17 := by rw [← hH]; exact rvec_len _ _
  have HCo := hide (fun (W : World) (u : Value) (hu : RI W u H) (hb : Below Y.heap.size Y W) => refCovers_in u _ H l W hu ((hr.below BY).below hb) (by omega) (by omega))
  have HH := hide (fun (W : World) (hb : Below Y.heap.size Y W) (x y : Int) => refHas_in _ l x y W ((hr.below BY).below hb) (by omega))
  have HMe := hide (fun (W : World) (hb : Below Y.heap.size Y W) => refMerge_in _ _ B l W ((hB.below BY).below hb) ((hr.below BY).below hb) (by omega) (by omega))
  have HBe := hide (fun (W : World) (hb : Below Y.heap.size Y W) => refBeyond_in ab B.length cb _ _ (ops.map Prod.fst) l W ((hO.below BY).below hb) ((hr.below BY).below hb) (by rw [List.length_map]; exact lO) (by omega))
  have HN := hide ((LN.below ⟨ab, cb, _, rfl, hB, qB, hO⟩ BY : LN Q Y (.agg #[.slice ab B.length cb, .slice ao ops.length co]) B (ops.map Prod.fst)))
  have HO := hide (RC.below h1 BY)
  have HE := hide (fun e he => (h2 e he).kp (N := fun _ => False) (Kp.of_below BY) (fun _ h => h.elim))
  have XX := hide (xX.below bY)
  have YY := hide yY
  have HBY := hide BY
  clear hB qB hO h1 h2 h3 hr hH bX xX bY yY BY
  have HF : Hid (∀ (W : World), Below Y.heap.size Y W → LN (fun i => Q i ∨ w.heap.size ≤ i) ((W.setCell ⟨X.heap.size, 0, none⟩ (.slice ab B.length cb)).setCell ⟨X.heap.size, 1, none⟩ (.slice ao ops.length co)) (.agg #[.slice ab B.length cb, .slice ao ops.length co]) B (ops.map Prod.fst) ∧ Below w.heap.size w ((W.setCell ⟨X.heap.size, 0, none⟩ (.slice ab B.length cb)).setCell ⟨X.heap.size, 1, none⟩ (.slice ao ops.length co))) := by
    refine hide (fun W hb => ?_)
    have k := kp2 W X.heap.size (.slice ab B.length cb) (.slice ao ops.length co)
    exact ⟨(((unhide HN).below hb).kp k (fun i e q => by have := hQ i q; omega)).mono (fun i hi q => .inl q), k.below (bnext (unhide HBY) hb) (fun i e => by omega)⟩
  rcases cut_ways H l with ⟨ck, ce⟩ | ⟨ck, cc, ce⟩ | ⟨ck, cc, ce⟩
  · have he : cutE H l = chk l := cutE_chk ck
    rw [if_neg ce, if_neg ce, if_neg ce, he]
    obtain ⟨c, hc⟩ : ∃ c, chk l = c := ⟨_, rfl⟩
    rw [hc] at HCk ck ⊢
    have ck' : (c == 0) = false := by simpa using ck
    clear HV HCo HH HMe HBe HO HE hc he ce
    go_enter Tryz.func34, Tryz.ntmps34
    go_wp2_with fail
    refine (unhide HCk).mono ?_
    rintro r W1 ⟨rfl, hb1⟩
    have x1 := (unhide XX).below hb1
    have z1 := (unhide YY).below hb1
    have c0 := x1.cell 0 _ rfl
    have c1 := x1.cell 1 _ rfl
    have d0 := z1.cell 0 _ rfl
    have d1 := z1.cell 1 _ rfl
    have f0 := z1.frozen 0
    have f1 := z1.frozen 1
    have l1 := x1.lt
    have l2 := z1.lt
    have x2 := hide (box2 z1 (.slice ab B.length cb) (.slice ao ops.length co))
    have hf := hide (unhide HF _ hb1)
    clear x1 z1 hb1
    go_wp2
    refine bodyPost_ret (results_ctt rfl _ _ (X.heap.size) _ _ _ _ rfl (unhide x2) Tryz.underlying35 rfl sizeLg) rfl ?_
    exact ⟨_, _, rfl, (unhide hf).1, RN.nil _ _, (unhide hf).2⟩
  · have he : cutE H l = 9 := cutE_cov ck cc
    rw [if_neg ce, if_neg ce, if_neg ce, he]
    rw [ck] at HCk
    rw [cc] at HCo
    clear HH HMe HBe HO HE he ce
    go_enter Tryz.func34, Tryz.ntmps34
    go_wp2_with fail
    refine (unhide HCk).mono ?_
    rintro r W1 ⟨rfl, hb1⟩
    have HV1 := hide (unhide HV W1 hb1)
    have x1 := (unhide XX).below hb1
    have c0 := x1.cell 0 _ rfl
    have c1 := x1.cell 1 _ rfl
    have l1 := x1.lt
    have B1 := hide hb1
    clear hb1 x1
    go_wp2_with fail
    refine (unhide HV1).mono ?_
    rintro r W2 ⟨v2, rfl, ho2, hb2⟩
    obtain ⟨a2, c2, rfl⟩ := ho2.form
    have B2 := hide (bnext (unhide B1) hb2)
    have HCo1 := hide (unhide HCo W2 _ ho2.row (unhide B2))
    clear HV1 ho2 hb2 B1 c0 c1 l1
    go_wp2_with fail
    refine (unhide HCo1).mono ?_
    rintro r W3 ⟨rfl, hb3⟩
    have HBW := bnext (unhide B2) hb3
    clear HCo1 hb3 B2
    have x1 := (unhide XX).below HBW
    have z1 := (unhide YY).below HBW
    have c0 := x1.cell 0 _ rfl
    have c1 := x1.cell 1 _ rfl
    have d0 := z1.cell 0 _ rfl
    have d1 := z1.cell 1 _ rfl
    have f0 := z1.frozen 0
    have f1 := z1.frozen 1
    have l1 := x1.lt
    have l2 := z1.lt
    have x2 := hide (box2 z1 (.slice ab B.length cb) (.slice ao ops.length co))
    have hf := hide (unhide HF _ HBW)
    clear x1 z1 HBW
    go_wp2
    refine bodyPost_ret (results_ctt rfl _ _ (X.heap.size) _ _ _ _ rfl (unhide x2) Tryz.underlying35 rfl sizeLg) rfl ?_
    exact ⟨_, _, rfl, (unhide hf).1, RN.nil _ _, (unhide hf).2⟩
  rw [if_pos ce, if_pos ce, if_pos ce, ce]
  rw [ck] at HCk
  rw [cc] at HCo
  unfold bynd at HBe
  rw [if_pos ck] at HBe
  clear HF cc ce ck
  go_enter Tryz.func34, Tryz.ntmps34
  go_wp2_with fail
  refine (unhide HCk).mono ?_
  rintro r W1 ⟨rfl, hb1⟩
  have HV1 := hide (unhide HV W1 hb1)
  have x1 := (unhide XX).below hb1
  have c0 := x1.cell 0 _ rfl
  have c1 := x1.cell 1 _ rfl
  have l1 := x1.lt
  have B1 := hide hb1
  clear hb1 x1
  go_wp2_with fail
  refine (unhide HV1).mono ?_
  rintro r W2 ⟨v2, rfl, ho2, hb2⟩
  obtain ⟨a2, c2, rfl⟩ := ho2.form
  have B2 := hide (bnext (unhide B1) hb2)
  have HCo1 := hide (unhide HCo W2 _ ho2.row (unhide B2))
  clear HV1 ho2 hb2 B1 c0 c1 l1
  go_wp2_with fail
  refine (unhide HCo1).mono ?_
  rintro r W3 ⟨rfl, hb3⟩
  have B3 := hide (bnext (unhide B2) hb3)
  clear HCo1 hb3 B2
  go_wp2
  clear hX hY
  go_loopw [8, 9] (fun vv iv wr => ∃ (i : Nat), iv = .int .i64 (i : Nat) ∧ i ≤ ops.length ∧ Hid (wr.ownsRow Y.heap.size 45 11 vv (prt l true (ops.take i)).length (flat encO (prt l true (ops.take i)))) ∧ Hid (Below Y.heap.size Y wr)) (fun _ iv _ => ops.length - (RowKit.intOf iv).toNat)
  case atStart => exact ⟨0, rfl, by omega, hide (by rw [List.take_zero]; exact World.ownsRow_nil _ _ _ _), B3⟩
  case round =>
    clear B3
    obtain ⟨i, rfl, hi, H1, B1⟩ := hrel
    have xr := (unhide XX).below (unhide B1)
    have c1 := xr.cell 1 _ rfl
    have cl := xr.lt
    by_cases hlt : i < ops.length
    · have hlt' : (i : Int) < (ops.length : Int) := by omega
      obtain ⟨e, hx⟩ : ∃ e, ops[i]? = some e := ⟨_, List.getElem?_eq_getElem hlt⟩
      obtain ⟨b0, off, rfl, hb0, hcell⟩ := RO.at (RC.below (unhide HO) (unhide B1)) hx
      have en := unhide HE e (List.mem_of_getElem? hx)
      have ht : ops.take (i + 1) = ops.take i ++ [e] := by rw [List.take_add_one, hx]; rfl
      have hps := prt_snoc l true (ops.take i) e
      rw [← ht] at hps
      have hpl : (prt l true (ops.take i)).length ≤ 1000000 := by have := prt_len l true (ops.take i); rw [List.length_take] at this; omega
      have Hone := hide en.one
      obtain ⟨a1, n1, e1⟩ := en.fd
      obtain ⟨a2, n2, e2⟩ := en.fg
      obtain ⟨o, ud, ug⟩ := e
      simp only at e1 e2
      subst e1 e2
      have p0 := hcell 0 _ rfl
      have p1 := hcell 1 _ rfl
      simp only [Nat.add_zero] at p0 p1
      have HS := hide (unhide HH wr (unhide B1) o.ds o.dq)
      have Hps := hide hps
      simp only at Hps
      obtain ⟨hh, hhe⟩ : ∃ x, hasV l (o.ds, o.dq) = x := ⟨_, rfl⟩
      rw [hhe] at HS Hps
      have HX2 := hide hx
      clear hcell en hps ht hx hhe xr
      go_wp2_with fail
      refine (unhide HS).mono ?_
      rintro r W2 ⟨rfl, hb2⟩
      have B2 := hide (bnext (unhide B1) hb2)
      have O2 := hide (owns_kp (N := fun _ => False) (unhide H1) (Kp.of_below hb2) (fun _ _ e => e))
      clear HS H1 B1 hb2 p0 p1
      have xr := (unhide XX).below (unhide B2)
      have c2 := xr.cell 1 _ rfl
      have cl2 := xr.lt
      clear xr
      cases hh with
      | true =>
        rw [show ((true : Bool) == true) = true from rfl, if_pos rfl] at Hps
        obtain ⟨b0', off', hae, hb0', hcell⟩ := RO.at (RC.below (unhide HO) (unhide B2)) (unhide HX2)
        simp only [Option.some.injEq, Addr.mk.injEq, and_true] at hae
        obtain ⟨rfl, rfl⟩ := hae
        have q0 := hcell 0 _ rfl
        have q1 := hcell 1 _ rfl
        have q2 := hcell 2 _ rfl
        have q3 := hcell 3 _ rfl
        have q4 := hcell 4 _ rfl
        have q5 := hcell 5 _ rfl
        have q6 := hcell 6 _ rfl
        have q7 := hcell 7 _ rfl
        have q8 := hcell 8 _ rfl
        have q9 := hcell 9 _ rfl
        have q10 := hcell 10 _ rfl
        rw [Nat.add_zero] at q0
        have al := ballc (Below.refl W2.heap.size W2) (.cells #[.int .i64 o.ds, .int .i64 o.dq, .slice a1 o.deps.length n1, .int .i64 o.kind, .int .i64 o.it, .int .i64 o.is, .int .i64 o.rt, .int .i64 o.rs, .string o.text, .slice a2 o.gone.length n2, .int .i64 o.site] 45)
        obtain ⟨v', w', hr, hown, hgr, _⟩ := append_op (W2.alloc (.cells #[.int .i64 o.ds, .int .i64 o.dq, .slice a1 o.deps.length n1, .int .i64 o.kind, .int .i64 o.it, .int .i64 o.is, .int .i64 o.rt, .int .i64 o.rs, .string o.text, .slice a2 o.gone.length n2, .int .i64 o.site] 45)) 33 Y.heap.size _ (prt l true (ops.take i)) (o, .slice a1 o.deps.length n1, .slice a2 o.gone.length n2) W2.heap.size (owns_kp (N := fun _ => False) (unhide O2) (Kp.of_below al) (fun _ _ e => e)) (Bx.new _ _ _) (unhide Hone) (bnext (unhide B2) al).size hpl
        have kk := Kp.of_grown (N := fun k => _ = some k) hgr (fun k hk => hk)
        have HO4 : Hid (w'.ownsRow Y.heap.size 45 11 v' (prt l true (ops.take (i + 1))).length (flat encO (prt l true (ops.take (i + 1))))) := by rw [unhide Hps]; exact hown
        have HB4 := hide (kk.below (bnext (unhide B2) al) (fun k hk => ((unhide O2).lt k hk).1))
        obtain ⟨ax, cx, hv'⟩ := owns_form (unhide HO4)
        subst hv'
        replace hr := hide hr
        obtain ⟨vx, cx2, hvv⟩ := owns_form (unhide O2)
        subst hvv
        clear hown hgr kk al O2 B2 Hps Hone hcell HX2
        go_wp2_with (at_builtin; refine wpList_append_eq rfl _ _ 33 rfl _ _ _ _ rfl rfl (unhide hr) ?_; clear hr)
        go_roundw
        case measure => simp [RowKit.intOf]; omega
        case rel => exact ⟨i + 1, by go_num, by omega, HO4, HB4⟩
      | false =>
        rw [show ((false : Bool) == true) = false from rfl, if_neg (by simp)] at Hps
        have HO4 : Hid (W2.ownsRow Y.heap.size 45 11 u8 (prt l true (ops.take (i + 1))).length (flat encO (prt l true (ops.take (i + 1))))) := by rw [unhide Hps]; exact unhide O2
        clear O2 Hps
        go_wp2
        go_roundw
        case measure => simp [RowKit.intOf]; omega
        case rel => exact ⟨i + 1, by go_num, by omega, HO4, B2⟩
    · have hlt' : ¬ (i : Int) < (ops.length : Int) := by omega
      obtain rfl : i = ops.length := by omega
      rw [List.take_length] at H1
      obtain ⟨vx, cx2, hvv⟩ := owns_form (unhide H1)
      subst hvv
      obtain ⟨ng, hng⟩ : ∃ n, (prt l true ops).length = n := ⟨_, rfl⟩
      rw [hng] at H1 ⊢
      replace hng := hide hng
      have yr := (unhide YY).below (unhide B1)
      have c0 := xr.cell 0 _ rfl
      have d0 := yr.cell 0 _ rfl
      have d1 := yr.cell 1 _ rfl
      have f0 := yr.frozen 0
      have f1 := yr.frozen 1
      have dl := yr.lt
      have YR := hide yr
      have XR := hide xr
      have HM1 := hide (unhide HMe wr.drew (unhide B1).drew)
      clear xr yr HCk HV HCo HH HMe
      go_wp2_with fail
      go_region_with (first
        | (go_at_call 29; refine (unhide HM1).mono ?_; rintro r W4 ⟨v4, rfl, ho4, hb4⟩; obtain ⟨a4, c4, hv4⟩ := ho4.form; subst hv4; have P4 := hide (bnext (Below.refl wr.heap.size wr).drew hb4); have B4 := hide (bnext (unhide B1) (unhide P4)); have xr := ((unhide XX).below (unhide B4)); have m0 := xr.cell 0 _ rfl; have m1 := xr.cell 1 _ rfl; have ml := xr.lt; clear xr; have O4 := hide ho4; clear ho4 hb4 HM1)
        | (go_at_call 14; refine (unhide HBe _ (unhide B4)).mono ?_; rintro r W5 ⟨v5, rfl, hn5, hb5⟩; obtain ⟨a5, c5, hv5⟩ := rn_form hn5; subst hv5; have P5 := hide (bnext (unhide P4) hb5); have B5 := hide (bnext (unhide B4) hb5); have yr := ((unhide YY).below (unhide B5)); have n0 := yr.cell 0 _ rfl; have n1 := yr.cell 1 _ rfl; have nf0 := yr.frozen 0; have nf1 := yr.frozen 1; have nl := yr.lt; clear yr; have N5 := hide hn5; have O5 := hide (owd_below (unhide O4) hb5); clear hn5 hb5))
      all_goals (
        have z4 := (unhide B4).size
        have zr := (unhide B1).size
        have z5 := (unhide P4).size
        obtain ⟨nv, hnv⟩ : ∃ n, (vec (mrg (sy B) (sy l))).length = n := ⟨_, rfl⟩
        obtain ⟨no, hno⟩ : ∃ n, (prL l false (ops.map Prod.fst)).length = n := ⟨_, rfl⟩
        have k := kp2 W5 X.heap.size (.slice a4 nv c4) (.slice a5 no c5)
        have x2 := hide (box2 ((unhide YY).below (unhide B5)) (.slice a4 nv c4) (.slice a5 no c5))
        have HR : Hid (LN (fun i => Q i ∨ w.heap.size ≤ i) ((W5.setCell ⟨X.heap.size, 0, none⟩ (.slice a4 nv c4)).setCell ⟨X.heap.size, 1, none⟩ (.slice a5 no c5)) (.agg #[.slice a4 nv c4, .slice a5 no c5]) (vec (mrg (sy B) (sy l))) (prL l false (ops.map Prod.fst)) ∧ RN (fun i => Q i ∨ w.heap.size ≤ i) ((W5.setCell ⟨X.heap.size, 0, none⟩ (.slice a4 nv c4)).setCell ⟨X.heap.size, 1, none⟩ (.slice a5 no c5)) (.slice vx ng cx2) (prL l true (ops.map Prod.fst)) ∧ Below w.heap.size w ((W5.setCell ⟨X.heap.size, 0, none⟩ (.slice a4 nv c4)).setCell ⟨X.heap.size, 1, none⟩ (.slice a5 no c5))) := by
          have zd : wr.heap.size ≤ wr.drew.heap.size := (Below.refl wr.heap.size wr).drew.size
          have o6 := owns_kp (unhide O5) k (fun i hi e => by have := ((unhide O5).lt i hi).1; omega)
          rw [hnv] at o6
          have n6 := ((unhide N5).kp k (fun i e q => by rcases q with q | q; (have := hQ i q; omega); omega)).mono (Q' := fun i => Q i ∨ w.heap.size ≤ i) (fun i _ q => q.imp id (fun q => by omega))
          rw [hno] at n6
          have g5 := owns_kp (N := fun _ => False) (unhide H1) (Kp.of_below (unhide P5)) (fun _ _ e => e)
          have g6 := owns_kp g5 k (fun i hi e => by have := (g5.lt i hi).1; omega)
          refine hide ⟨⟨a4, c4, _, by rw [hnv], by unfold RI; rw [hnv]; exact RC.of_owns o6, fun j hj => ?_, n6⟩, ⟨prt l true ops, ?_, fun e he => ?_, fun j hj => ?_, prt_fst l true ops, _, _, by rw [unhide hng]⟩, k.below (bnext (unhide HBY) (unhide B5)) (fun i e => by omega)⟩
          · rw [hnv] at hj
            have := (o6.lt j hj.2).1
            exact .inr (by omega)
          · unfold RO
            rw [unhide hng]
            exact RC.of_owns g6
          · exact (((unhide HE e (prt_mem he)).kp (N := fun _ => False) (Kp.of_below (unhide B5)) (fun _ h => h.elim)).kp k (fun i e q => by have := hQ i q; omega)).mono (fun i _ q => .inl q)
          · have := (g6.lt j hj.2).1
            exact .inr (by omega)
        rw [hnv, hno]
        clear k O5 N5 O4 H1 P4 P5 B4 B5 HE HO HBe HN XX YY YR XR hng hnv hno
        go_wp2
        refine bodyPost_ret (results_ctt rfl _ _ (X.heap.size) _ _ _ _ rfl (unhide x2) Tryz.underlying35 rfl sizeLg) rfl ?_
        exact ⟨_, _, rfl, (unhide HR).1, (unhide HR).2.1, (unhide HR).2.2⟩)

end Go.Proofs.YtijjoikeceechaaGreat
