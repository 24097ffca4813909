/-
  The law's step: beyond.
-/
import Derived.Test.YtijjoikeceechaaGreatZXLR6
import Derived.Deep.CutRange
import Derived.Test.YtijjoikeceechaaGreatZQW

set_option linter.unusedSimpArgs false
set_option linter.unusedVariables false
namespace Go.Proofs.YtijjoikeceechaaGreat
open Go.RowKit Go.Lib

set_option maxRecDepth 100000 in
set_option maxHeartbeats 16000000 in
theorem step_beyond {w W : World} {P R : Nat → Prop} {b : Nat} {B H : List (Int × Int)} {O : List Opn} (h : LL P W b B H O) (hP : ∀ i, P i → w.heap.size ≤ i ∧ i < W.heap.size) (hw : Below w.heap.size w W) (x : Value) (hx : LN R W x B O) (hR : ∀ i, R i → i < W.heap.size ∧ ¬ P i) (hRw : ∀ i, i < w.heap.size → R i) (hST : ST B H O) (hn : O.length ≤ 200) (s : Stp) (hs : StW w s) (h1 : s.op.deps.length ≤ 60000) (h2 : s.op.gone.length ≤ 60000) (h3 : s.op.text.size ≤ 60000) (h4 : s.vec.length ≤ 60000) (hk : s.kind = 2) :
    Calls Tryz.prog 11 #[.pointer (some ⟨b, 0, none⟩), x, stA s] W (StA W P R b (doB s B H) (doH s H) (doO s H O)) := by
  obtain ⟨kind, o, vl, vd, vg, vv⟩ := s
  obtain ⟨⟨⟨ad, cd, hd⟩, ⟨ag, cg, hg⟩, ⟨av, cv, hvv⟩⟩, rd, rg, rv, inn, kin⟩ := hs
  simp only at hd hg hvv rd rg rv inn kin h1 h2 h3 h4 hk
  subst hd hg hvv
  subst hk
  have n21 : ¬ (2 : Int) = 1 := by decide
  have n23 : ¬ (2 : Int) = 3 := by decide
  unfold doB doH doO stA
  simp only [if_neg n21, if_neg n23]
  clear n21 n23
  have hx0 := hx
  obtain ⟨ab, cb, vo, rfl, hB, qB, hO⟩ := hx
  obtain ⟨ao, co, rfl⟩ := rn_form hO
  have lB := ck_len hST.nb
  have zw := hw.size
  obtain ⟨X, hX⟩ : ∃ X, W.alloc (.cells #[.slice ab B.length cb, .slice ao O.length co] 35) = X := ⟨_, rfl⟩
  obtain ⟨Y, hY⟩ : ∃ Y, X.alloc (.cells #[.int .i64 2, .int .i64 o.ds, .int .i64 o.dq, .slice ad o.deps.length cd, .int .i64 o.kind, .int .i64 o.it, .int .i64 o.is, .int .i64 o.rt, .int .i64 o.rs, .string o.text, .slice ag o.gone.length cg, .int .i64 o.site, .slice av vl.length cv] 47) = Y := ⟨_, rfl⟩
  obtain ⟨Z, hZ⟩ : ∃ Z, Y.alloc (.cells #[.slice none 0 0, .slice none 0 0] 35) = Z := ⟨_, rfl⟩
  have bX : Below W.heap.size W X := by rw [← hX]; exact ballc (Below.refl _ _) _
  have bY : Below X.heap.size X Y := by rw [← hY]; exact ballc (Below.refl _ _) _
  have bZ : Below Y.heap.size Y Z := by rw [← hZ]; exact ballc (Below.refl _ _) _
  have xX : Bx X W.heap.size 35 #[.slice ab B.length cb, .slice ao O.length co] := by rw [← hX]; exact Bx.new W _ _
  have yY : Bx Y X.heap.size 47 #[.int .i64 2, .int .i64 o.ds, .int .i64 o.dq, .slice ad o.deps.length cd, .int .i64 o.kind, .int .i64 o.it, .int .i64 o.is, .int .i64 o.rt, .int .i64 o.rs, .string o.text, .slice ag o.gone.length cg, .int .i64 o.site, .slice av vl.length cv] := by rw [← hY]; exact Bx.new X _ _
  have zZ : Bx Z Y.heap.size 35 #[.slice none 0 0, .slice none 0 0] := by rw [← hZ]; exact Bx.new Y _ _
  have wX : W.heap.size < X.heap.size := xX.lt
  have XY : X.heap.size < Y.heap.size := yY.lt
  have YZ : Y.heap.size < Z.heap.size := zZ.lt
  have bW := bnext (bnext bX bY) bZ
  have yZ := yY.below bZ
  obtain ⟨a1, c1, W1, gv, cm, W2, hap1, hap2, hm, b1, b2⟩ := mark_row Z av cv vl ((rv.below hw).below bW) (by omega)
  have sf2 : SF W2 W.heap.size X.heap.size Y.heap.size Z.heap.size (.slice ab B.length cb) (.slice ao O.length co) #[.int .i64 2, .int .i64 o.ds, .int .i64 o.dq, .slice ad o.deps.length cd, .int .i64 o.kind, .int .i64 o.it, .int .i64 o.is, .int .i64 o.rt, .int .i64 o.rs, .string o.text, .slice ag o.gone.length cg, .int .i64 o.site, .slice av vl.length cv] vl gv cm := ⟨((xX.below bY).below bZ).below b2, yZ.below b2, zZ.below b2, hm⟩
  have mcap := hm.cap
  have mlo := hm.lo
  have hsl := fun W n => sl_toVt W (some ⟨gv, 0, none⟩) n cm vl.length (by omega)
  have bW2 := bnext bW b2
  have z2 := b2.size
  have k12 := yZ.cell 12 _ rfl
  have kl := yZ.lt
  have j0 := sf2.y.cell 0 _ rfl
  have j12 := sf2.y.cell 12 _ rfl
  have jl := sf2.y.lt
  replace hap1 := hide hap1
  replace hap2 := hide hap2
  have nP : ∀ i, W.heap.size ≤ i → ¬ P i := fun i hi p => by have := (hP i p).2; omega
  have hbl := bynd_len vl O
  have HB := hide (refBeyond_in ab B.length cb _ _ O vl W2 ((RN.below hO bW2)) ((rv.below hw).below bW2) (by omega) (by omega))
  obtain ⟨BY, hBY⟩ : ∃ x, bynd vl O = x := ⟨_, rfl⟩
  rw [hBY] at HB hbl
  replace hBY := hide hBY
  have RV := hide rv
  have HL := hide h
  have HX0 := hide (hx0.below bW2)
  have HW := hide hw
  have BW2 := hide bW2
  have SF2 := hide sf2
  have HHR := hide hR
  have HHP := hide hP
  have HO2 := hide (RN.below hO bW2)
  have x0 := sf2.x.cell 0 _ rfl
  have x1 := sf2.x.cell 1 _ rfl
  have xl := sf2.x.lt
  clear h hx0 hB qB hO hR hRw hST hP rv rd rg inn kin bX bY bZ xX yY zZ bW yZ hm b1 b2 sf2 bW2 hw
  go_enter Tryz.func11, Tryz.ntmps11
  go_upto_region 14 with (at_builtin; first | (have H1 := hap1; clear hap1; refine wpList_append_eq rfl _ _ 23 rfl _ _ _ _ rfl rfl (unhide H1) ?_; clear H1) | (have H2 := hap2; clear hap2; refine wpList_append_eq rfl _ _ 23 rfl _ _ _ _ rfl rfl (unhide H2) ?_; clear H2))
  go_wp2_with fail
  refine (unhide HB).mono ?_
  rintro r W3 ⟨v3, rfl, hn3, hb3⟩
  obtain ⟨a3, c3, rfl⟩ := rn_form hn3
  have z3 := hb3.size
  have z02 := (unhide BW2).size
  have B3 := hide (bnext (unhide BW2) hb3)
  have N3 := hide hn3
  have SF3 := hide ((unhide SF2).below hb3)
  have HO3 := hide ((unhide HO2).below hb3)
  have HX3 := hide ((unhide HX0).below hb3)
  have HBe := hide (Beyond_in ((unhide HL).below (unhide B3)) (by omega) _ vl (unhide SF3).m.ri (by omega))
  rw [unhide hBY] at HBe
  clear HB hn3 hb3 x0 x1 xl j0 j12 k12 kl jl
  go_wp2_with fail
  refine (unhide HBe).mono ?_
  rintro r W4 ⟨rfl, hit, hb4⟩
  have z4 := hb4.size
  have B4 := hide (bnext (unhide B3) hb4)
  have I4 := hide hit
  have N4 := hide ((unhide N3).below hb4)
  have SF4 := hide ((unhide SF3).below hb4)
  have HO4 := hide ((unhide HO3).below hb4)
  have HX4 := hide ((unhide HX3).below hb4)
  have BW4 := hide (bnext (unhide HW) (unhide B4))
  have HLa := hide (fun (V : World) (hb : Below W4.heap.size W4 V) => KLacks_in (w := w) (W := V) (b := b) (base := B) (hv := H) (os := O) ⟨P, ((unhide HL).below (unhide B4)).below hb, fun i p => ⟨(unhide HHP i p).1, by have := (unhide HHP i p).2; have := hb.size; omega⟩, bnext (unhide BW4) hb⟩ (by omega) (some ⟨gv, 0, none⟩) vl.length cm vl ((unhide SF4).m.ri.below hb) (by omega))
  have HLr := hide (fun (V : World) (hb : Below W4.heap.size W4 V) => refLacks_in ab B.length cb _ _ O vl V ((unhide HO4).below hb) (((unhide RV).below (unhide BW4)).below hb) (by omega) (by omega))
  have HVs : Hid (∀ (V : World) (hb : Below W4.heap.size W4 V), Calls Tryz.prog 10 #[.slice (some ⟨gv, 0, none⟩) vl.length cm, .slice av vl.length cv] V fun e V' => e = .returned (.bool true) ∧ Below V.heap.size V V') := hide (fun V hb => by
    refine (vectors_in vl vl _ _ V ((unhide SF4).m.ri.below hb) (((unhide RV).below (unhide BW4)).below hb) (by omega) (by omega)).mono ?_
    rintro e V' ⟨rfl, n, rfl⟩
    exact ⟨by rw [decide_eq_true rfl], bdrew (Below.refl _ _) _⟩)
  rw [unhide hBY] at HLa HLr
  have hneq : ∀ (n : Nat) W, (binOp .neq 55 (.func (.func 40) #[] #[.pointer (some ⟨n, 0, none⟩)]) .nilFunc).run Tryz.prog W = .ok (.bool true) W := fun n W => run_neq_func_nil W _ _ _ _ Tryz.underlying55
  have x0 := (unhide SF4).x.cell 0 _ rfl
  have x1 := (unhide SF4).x.cell 1 _ rfl
  have xl := (unhide SF4).x.lt
  have y12 := (unhide SF4).y.cell 12 _ rfl
  obtain ⟨m0, m1⟩ := (unhide SF4).m.md
  have ml := (unhide SF4).m.lo.2
  have hne := BelowOf.ne W4
  have mixed : Tryz.prog.follows .mixedOrders = true := by kernel_rfl
  have k0 : ∀ p : BelowOf W4, p.w.cell? ⟨W.heap.size, 0, none⟩ = some (.slice ab B.length cb) := fun p => cell_below x0 p.h
  have k1 : ∀ p : BelowOf W4, p.w.cell? ⟨W.heap.size, 1, none⟩ = some (.slice ao O.length co) := fun p => cell_below x1 p.h
  have k2 : ∀ p : BelowOf W4, p.w.cell? ⟨X.heap.size, 12, none⟩ = some (.slice av vl.length cv) := fun p => cell_below y12 p.h
  have k3 : ∀ p : BelowOf W4, p.w.cell? ⟨gv, vl.length * 2 + 1, none⟩ = some (.int .i64 77) := fun p => cell_below m1 p.h
  have i1 : (vl.length : Int) < (vl.length : Int) + 1 := by omega
  unfold itV at *
  clear HBe hit hb4 SF2 SF3 HO2 HO3 N3 x0 x1 y12 m0 m1 hBY
  go_wp2_with fail
  refine wp_region_quiet_below mixed (by kernel_rfl) ?_
  repeat (any_goals (first | go_big_quiet_step ((first | (go_at_call 22; exact below_of (unhide HLa _ (BelowOf.h _))) | (go_at_call 33; exact below_of (unhide HLr _ (BelowOf.h _))) | (go_at_call 10; exact below_of (unhide HVs _ (BelowOf.h _))))) | quiet_step ((first | (go_at_call 22; exact below_of (unhide HLa _ (BelowOf.h _))) | (go_at_call 33; exact below_of (unhide HLr _ (BelowOf.h _))) | (go_at_call 10; exact below_of (unhide HVs _ (BelowOf.h _)))))))
  all_goals (refine wpQuiet_nil ?_; intro _ hw'; obtain ⟨p, hw''⟩ := hw'; subst hw'')
  have hb5 := p.h
  generalize p.w = W5 at hb5 ⊢
  have z5 := hb5.size
  have S9 := hide ((unhide SF4).below hb5)
  have XM : Hid (OwX W5 28 2 (.slice (some ⟨gv, 0, none⟩) (vl.length + 1) cm) (vl.length + 1)) := hide (OwX.of (unhide S9).m)
  have G9 : Hid (Kp (fun i => i = gv) W5 W5 ∧ SS W5 W5) := hide ⟨Kp.refl _ _, SS.refl _⟩
  have I5 : Hid (IT (fun i => P i ∨ W3.heap.size ≤ i) W5 W3.heap.size BY) := by
    obtain ⟨v, ops, hit, e⟩ := unhide I4
    exact hide ⟨v, ops, hit.below hb5, e⟩
  have N5 := hide ((unhide N4).below hb5)
  have T5 : Hid (TS w W W5 P P R W2.heap.size b (.agg #[.slice ab B.length cb, .slice ao O.length co]) B H O) := hide ⟨((unhide HL).below (unhide B4)).below hb5, ((unhide HX4).below hb5).mono (fun i _ q => .inl q), Kp.of_below (bnext (unhide B4) hb5), fun i p => ⟨.inl p, by have := (unhide HHP i p).2; omega⟩, unhide HHR, by omega, by omega⟩
  clear HLa HLr HVs hne k0 k1 k2 k3 SF4 I4 N4 HX0 HX3 HX4 HO4 B3 B4 BW4 HL xl
  go_wp2
  clear i1
  obtain ⟨LV, hLV⟩ : ∃ L, vl.length = L := ⟨_, rfl⟩
  rw [hLV] at XM h4 ⊢
  replace hLV := hide hLV
  go_loopw [16] (fun iv wr => ∃ i : Nat, iv = .int .i64 (i : Nat) ∧ i ≤ LV + 1 ∧ Hid (Kp (fun i => i = gv) W5 wr ∧ SS W5 wr)) (fun iv _ => LV + 1 - (RowKit.intOf iv).toNat)
  case atStart => exact ⟨0, rfl, by omega, G9⟩
  case round =>
    clear G9
    obtain ⟨i, rfl, hi, G9⟩ := hrel
    by_cases hlt : i < LV + 1
    · have hlt' : (i : Int) < (LV : Int) + 1 := by omega
      obtain ⟨g, hge, l0, fz, cc, _⟩ := ((unhide XM).ss (unhide G9).2).at (by omega)
      simp only [Option.some.injEq, Addr.mk.injEq, and_true] at hge
      subst hge
      obtain ⟨y0, d0⟩ := cc (i * 2) (by omega)
      obtain ⟨y1, d1⟩ := cc (i * 2 + 1) (by omega)
      have f0 := fz (i * 2)
      have f1 := fz (i * 2 + 1)
      have G10 : Hid (Kp (fun i => i = gv) W5 ((wr.setCell ⟨gv, i * 2, none⟩ (.int .i64 1)).setCell ⟨gv, i * 2 + 1, none⟩ (.int .i64 1)) ∧ SS W5 ((wr.setCell ⟨gv, i * 2, none⟩ (.int .i64 1)).setCell ⟨gv, i * 2 + 1, none⟩ (.int .i64 1))) :=
        hide ⟨((unhide G9).1.trans (Kp.set (N := fun k => k = gv) _ _ _ rfl) (fun i e => .inl e)).trans (Kp.set (N := fun k => k = gv) _ _ _ rfl) (fun i e => .inl e), ((unhide G9).2.trans (SS.set _ _ _ _)).trans (SS.set _ _ _ _)⟩
      clear G9 fz cc
      go_wp2
      go_roundw
      case rel => exact ⟨i + 1, by go_num, by omega, G10⟩
      case measure => simp [RowKit.intOf]; omega
    · have hlt' : ¬ (i : Int) < (LV : Int) + 1 := by omega
      have xr := hide ((unhide S9).x.kp (unhide G9).1 (by omega))
      have zr := hide ((unhide S9).z.kp (unhide G9).1 (by omega))
      have c0 := (unhide xr).cell 0 _ rfl
      have c1 := (unhide xr).cell 1 _ rfl
      have cl := (unhide xr).lt
      have IR : Hid (IT (fun i => P i ∨ W3.heap.size ≤ i) wr W3.heap.size BY) := by
        obtain ⟨v, ops, hit, e⟩ := unhide I5
        exact hide ⟨v, ops, hit.kp (unhide G9).1 (fun i e p => by subst e; rcases p with p | p; exact nP _ (by omega) p; omega), e⟩
      have nR : ∀ i, W.heap.size ≤ i → ¬ R i := fun i hi q => by have := (unhide HHR i q).1; omega
      have NR := hide ((unhide N5).kp (unhide G9).1 (fun i e q => by subst e; rcases q with q | q; exact nR _ (by omega) q; omega))
      have HRe := hide (fun (V : World) (hb : Below wr.heap.size wr V) => Krest_in (W := V) (nb := W3.heap.size) (os := BY) (IT.lt (by obtain ⟨v, ops, hit, e⟩ := unhide IR; exact ⟨v, ops, hit.below hb, e⟩)) 201 (by omega))
      unfold itV at HRe
      clear XM I5 N5
      go_wp2_with fail
      go_region_with (first
        | (go_at_call 20; refine (unhide HRe _ (Below.refl _ _).drew).mono ?_; rintro r W6 ⟨a6, c6, rfl, hr6, hb6⟩; have P6 := hide (bnext (Below.refl wr.heap.size wr).drew hb6); have HOp := hide (ops2_in _ _ BY hr6.rn ((unhide NR).below (unhide P6)) (by omega)); have xq := ((unhide xr).below (unhide P6)); have m0 := xq.cell 0 _ rfl; have m1 := xq.cell 1 _ rfl; have ml6 := xq.lt; clear xq hr6 hb6)
        | (go_at_call 19; refine (unhide HOp).mono ?_; rintro r W7 ⟨rfl, hb7⟩; have P7 := hide (bnext (unhide P6) hb7); have xq := ((unhide xr).below (unhide P7)); have n0 := xq.cell 0 _ rfl; have n1 := xq.cell 1 _ rfl; have nl := xq.lt; have zq := ((unhide zr).below (unhide P7)); have o0 := zq.cell 0 _ rfl; have o1 := zq.cell 1 _ rfl; have of0 := zq.frozen 0; have of1 := zq.frozen 1; have ol := zq.lt; clear xq zq hb7 HOp))
      all_goals (
        have z2 := hide (box2 ((unhide zr).below (unhide P7)) (.slice ab B.length cb) (.slice ao O.length co))
        have kf : Hid (Kp (fun i => i = gv ∨ i = Y.heap.size) W5 ((W7.setCell ⟨Y.heap.size, 0, none⟩ (.slice ab B.length cb)).setCell ⟨Y.heap.size, 1, none⟩ (.slice ao O.length co))) := hide ((((unhide G9).1.wk (fun i e => .inl e)).trans (Kp.of_below (N := fun _ => False) (unhide P7)) (fun i e => e.elim)).trans (kp2 W7 Y.heap.size _ _) (fun i e => .inl (.inr e)))
        have h1 : W.heap.size ≤ gv ∧ gv < W2.heap.size ∧ ¬ P gv := ⟨by omega, mlo.2, nP _ (by omega)⟩
        have h2 : W.heap.size ≤ Y.heap.size ∧ Y.heap.size < W2.heap.size ∧ ¬ P Y.heap.size := ⟨by omega, by omega, nP _ (by omega)⟩
        go_wp2
        refine bodyPost_ret (results_ct rfl _ _ (Y.heap.size) _ _ _ _ rfl (unhide z2) Tryz.underlying35 rfl sizeLg) rfl ?_
        exact TS.fin (unhide T5) (unhide kf) h1 h2)

end Go.Proofs.YtijjoikeceechaaGreat

/-
  The law's step: cut.
-/
set_option linter.unusedSimpArgs false
set_option linter.unusedVariables false
namespace Go.Proofs.YtijjoikeceechaaGreat
open Go.RowKit Go.Lib

set_option maxRecDepth 100000 in
set_option maxHeartbeats 16000000 in
theorem step_cut {w W : World} {P R : Nat → Prop} {b : Nat} {B H : List (Int × Int)} {O : List Opn} (h : LL P W b B H O) (hP : ∀ i, P i → w.heap.size ≤ i ∧ i < W.heap.size) (hw : Below w.heap.size w W) (x : Value) (hx : LN R W x B O) (hR : ∀ i, R i → i < W.heap.size ∧ ¬ P i) (hRw : ∀ i, i < w.heap.size → R i) (hST : ST B H O) (hn : O.length ≤ 200) (s : Stp) (hs : StW w s) (h1 : s.op.deps.length ≤ 60000) (h2 : s.op.gone.length ≤ 60000) (h3 : s.op.text.size ≤ 60000) (h4 : s.vec.length ≤ 60000) (hk : s.kind = 3) :
    Calls Tryz.prog 11 #[.pointer (some ⟨b, 0, none⟩), x, stA s] W (StA W P R b (doB s B H) (doH s H) (doO s H O)) := by
  obtain ⟨kind, o, vl, vd, vg, vv⟩ := s
  obtain ⟨⟨⟨ad, cd, hd⟩, ⟨ag, cg, hg⟩, ⟨av, cv, hvv⟩⟩, rd, rg, rv, inn, kin⟩ := hs
  simp only at hd hg hvv rd rg rv inn kin h1 h2 h3 h4 hk
  subst hd hg hvv
  subst hk
  have n31 : ¬ (3 : Int) = 1 := by decide
  unfold doB doH doO stA
  simp only [if_neg n31, if_true]
  obtain ⟨EE, hEE⟩ : ∃ x, cutE H vl = x := ⟨_, rfl⟩
  obtain ⟨B', hB'⟩ : ∃ x, (if EE = 0 then vec (mrg (sy B) (sy vl)) else B) = x := ⟨_, rfl⟩
  obtain ⟨O', hO'⟩ : ∃ x, (if EE = 0 then prL vl false O else O) = x := ⟨_, rfl⟩
  obtain ⟨X', hX'⟩ : ∃ x, (if EE = 0 then prL vl true O else []) = x := ⟨_, rfl⟩
  have lX' : X'.length ≤ 200 := by
    rw [← hX']
    split
    · exact Nat.le_trans (List.length_filter_le _ _) hn
    · simp
  rw [hEE, hB', hO']
  replace hEE := hide hEE
  replace hB' := hide hB'
  replace hO' := hide hO'
  replace hX' := hide hX'
  clear n31
  have hx0 := hx
  obtain ⟨ab, cb, vo, rfl, hB, qB, hO⟩ := hx
  obtain ⟨ao, co, rfl⟩ := rn_form hO
  have lB := ck_len hST.nb
  have zw := hw.size
  obtain ⟨X, hX⟩ : ∃ X, W.alloc (.cells #[.slice ab B.length cb, .slice ao O.length co] 35) = X := ⟨_, rfl⟩
  obtain ⟨Y, hY⟩ : ∃ Y, X.alloc (.cells #[.int .i64 3, .int .i64 o.ds, .int .i64 o.dq, .slice ad o.deps.length cd, .int .i64 o.kind, .int .i64 o.it, .int .i64 o.is, .int .i64 o.rt, .int .i64 o.rs, .string o.text, .slice ag o.gone.length cg, .int .i64 o.site, .slice av vl.length cv] 47) = Y := ⟨_, rfl⟩
  obtain ⟨Z, hZ⟩ : ∃ Z, Y.alloc (.cells #[.slice none 0 0, .slice none 0 0] 35) = Z := ⟨_, rfl⟩
  have bX : Below W.heap.size W X := by rw [← hX]; exact ballc (Below.refl _ _) _
  have bY : Below X.heap.size X Y := by rw [← hY]; exact ballc (Below.refl _ _) _
  have bZ : Below Y.heap.size Y Z := by rw [← hZ]; exact ballc (Below.refl _ _) _
  have xX : Bx X W.heap.size 35 #[.slice ab B.length cb, .slice ao O.length co] := by rw [← hX]; exact Bx.new W _ _
  have yY : Bx Y X.heap.size 47 #[.int .i64 3, .int .i64 o.ds, .int .i64 o.dq, .slice ad o.deps.length cd, .int .i64 o.kind, .int .i64 o.it, .int .i64 o.is, .int .i64 o.rt, .int .i64 o.rs, .string o.text, .slice ag o.gone.length cg, .int .i64 o.site, .slice av vl.length cv] := by rw [← hY]; exact Bx.new X _ _
  have zZ : Bx Z Y.heap.size 35 #[.slice none 0 0, .slice none 0 0] := by rw [← hZ]; exact Bx.new Y _ _
  have wX : W.heap.size < X.heap.size := xX.lt
  have XY : X.heap.size < Y.heap.size := yY.lt
  have YZ : Y.heap.size < Z.heap.size := zZ.lt
  have bW := bnext (bnext bX bY) bZ
  have yZ := yY.below bZ
  obtain ⟨a1, c1, W1, gv, cm, W2, hap1, hap2, hm, b1, b2⟩ := mark_row Z av cv vl ((rv.below hw).below bW) (by omega)
  have sf2 : SF W2 W.heap.size X.heap.size Y.heap.size Z.heap.size (.slice ab B.length cb) (.slice ao O.length co) #[.int .i64 3, .int .i64 o.ds, .int .i64 o.dq, .slice ad o.deps.length cd, .int .i64 o.kind, .int .i64 o.it, .int .i64 o.is, .int .i64 o.rt, .int .i64 o.rs, .string o.text, .slice ag o.gone.length cg, .int .i64 o.site, .slice av vl.length cv] vl gv cm := ⟨((xX.below bY).below bZ).below b2, yZ.below b2, zZ.below b2, hm⟩
  have mcap := hm.cap
  have mlo := hm.lo
  have hsl := fun W n => sl_toVt W (some ⟨gv, 0, none⟩) n cm vl.length (by omega)
  have bW2 := bnext bW b2
  have z2 := b2.size
  have k12 := yZ.cell 12 _ rfl
  have kl := yZ.lt
  have j0 := sf2.y.cell 0 _ rfl
  have j12 := sf2.y.cell 12 _ rfl
  have jl := sf2.y.lt
  replace hap1 := hide hap1
  replace hap2 := hide hap2
  have hH : rvec B O = H := hST.rvec
  have nP : ∀ i, W.heap.size ≤ i → ¬ P i := fun i hi p => by have := (hP i p).2; omega
  have HC := hide (Cut_in (h.below bW2) (fun i hi => by have := (hP i hi).2; have := bW2.size; omega) (by omega) (.slice (some ⟨gv, 0, none⟩) vl.length cm) vl sf2.m.ri (by omega) (fun k hk p => by have := hk.2; simp [Value.ownBlock] at this; subst this; exact nP _ (by omega) p))
  unfold CutA at HC
  rw [unhide hEE, unhide hB', unhide hO', unhide hX'] at HC
  have RV := hide rv
  have HX0 := hide (hx0.below bW2)
  have HW := hide hw
  have BW2 := hide bW2
  have SF2 := hide sf2
  have HHR := hide hR
  have HHP := hide hP
  clear h hx0 hB qB hO hR hRw hST hP rv rd rg inn kin bX bY bZ xX yY zZ bW yZ hm b1 b2 sf2 bW2 hw
  go_enter Tryz.func11, Tryz.ntmps11
  go_upto_region 23 with (at_builtin; first | (have H1 := hap1; clear hap1; refine wpList_append_eq rfl _ _ 23 rfl _ _ _ _ rfl rfl (unhide H1) ?_; clear H1) | (have H2 := hap2; clear hap2; refine wpList_append_eq rfl _ _ 23 rfl _ _ _ _ rfl rfl (unhide H2) ?_; clear H2))
  go_wp2_with fail
  refine (unhide HC).mono ?_
  rintro r W3 ⟨vg3, M, rfl, hM1, hM2, hr3, hl3, k3⟩
  obtain ⟨ag3, cg3, rfl⟩ := rl_form hr3
  have z3 := k3.size
  have z02 := (unhide BW2).size
  have SF3 := hide ((unhide SF2).kp k3 (nP _ (by omega)) (nP _ (by omega)) (nP _ (by omega)) (nP _ (by omega)))
  have HX3 := hide ((unhide HX0).kp k3 (fun i p q => (unhide HHR i q).2 p))
  have L3 := hide hl3.lt
  have R3 := hide hr3
  have K3 : Hid (Kp P W W3) := hide ((Kp.of_below (unhide BW2)).trans k3 (fun i p => .inl p))
  have BW3 := hide ((unhide K3).below (unhide HW) (fun i p => (unhide HHP i p).1))
  have HRC := hide (refCut_in (.agg #[.slice ab B.length cb, .slice ao O.length co]) _ B H vl O W3 (unhide HX3) (fun i q => by have := (unhide HHR i q).1; omega) hH (by omega) (by omega) ((unhide RV).below (unhide BW3)) (by omega))
  rw [unhide hEE, unhide hB', unhide hO', unhide hX'] at HRC
  have c0 := (unhide SF3).x.cell 0 _ rfl
  have c1 := (unhide SF3).x.cell 1 _ rfl
  have cl := (unhide SF3).x.lt
  have j12' := (unhide SF3).y.cell 12 _ rfl
  have jl3 := (unhide SF3).y.lt
  clear HC hr3 hl3 k3 j0 j12 k12 kl jl
  go_wp2_with fail
  refine (unhide HRC).mono ?_
  rintro r W4 ⟨x4, vg4, rfl, hn4, hr4, hb4⟩
  have N4 := hide hn4
  obtain ⟨ab4, cb4, vo4, rfl, _, _, ho4⟩ := hn4
  obtain ⟨ao4, co4, rfl⟩ := rn_form ho4
  obtain ⟨ag4, cg4, rfl⟩ := rn_form hr4
  have z4 := hb4.size
  have sf4 := (unhide SF3).below hb4
  have d0 := sf4.x.cell 0 _ rfl
  have d1 := sf4.x.cell 1 _ rfl
  have df0 := sf4.x.frozen 0
  have df1 := sf4.x.frozen 1
  have dl := sf4.x.lt
  obtain ⟨W5, hW5⟩ : ∃ V, ((W4.setCell ⟨W.heap.size, 0, none⟩ (.slice ab4 B'.length cb4)).setCell ⟨W.heap.size, 1, none⟩ (.slice ao4 O'.length co4)) = V := ⟨_, rfl⟩
  have k5 : Kp (fun k => k = W.heap.size) W4 W5 := by rw [← hW5]; exact kp2 W4 W.heap.size _ _
  have z5 := k5.size
  have sf5 : SF W5 W.heap.size X.heap.size Y.heap.size Z.heap.size (.slice ab4 B'.length cb4) (.slice ao4 O'.length co4) #[.int .i64 3, .int .i64 o.ds, .int .i64 o.dq, .slice ad o.deps.length cd, .int .i64 o.kind, .int .i64 o.it, .int .i64 o.is, .int .i64 o.rt, .int .i64 o.rs, .string o.text, .slice ag o.gone.length cg, .int .i64 o.site, .slice av vl.length cv] vl gv cm := by rw [← hW5]; exact sf4.setx _ _ (by omega) (by omega) (by omega)
  have SF5 := hide sf5
  have nR : ∀ i, W.heap.size ≤ i → ¬ R i := fun i hi q => by have := (unhide HHR i q).1; omega
  have R5 := hide (((unhide R3).below hb4).kp k5 (fun i e p => by have := p.1; omega))
  have G5 := hide (hr4.kp k5 (fun i e q => by subst e; rcases q with q | q; exact nR _ (Nat.le_refl _) q; omega))
  have N5 := hide ((unhide N4).kp k5 (fun i e q => by subst e; rcases q with q | q; exact nR _ (Nat.le_refl _) q; omega))
  have L5 : Hid (LL (fun i => (P i ∨ M ≤ i) ∧ i < W3.heap.size) W5 b B' H O') := hide (((unhide L3).below hb4).kp k5 (fun i e p => by subst e; rcases p.1 with p | p; exact nP _ (Nat.le_refl _) p; omega))
  have K5 : Hid (Kp P W W5) := hide (((unhide K3).trans (Kp.of_below (N := fun _ => False) hb4) (fun i e => e.elim)).trans k5 (fun i e => .inr (by omega)))
  have HOp := hide (ops2_in _ _ X' (unhide R5).rn (unhide G5) (by omega))
  clear HRC hr4 ho4 sf4 sf5 c0 c1 cl j12' jl3 N4 K3 L3 R3 SF2 SF3 HX0 HX3 BW3 k5 hb4
  go_wp2_with fail
  refine (unhide HOp).mono ?_
  rintro r W6 ⟨rfl, hb6⟩
  have z6 := hb6.size
  have HWi := hide (wipe_in _ X' ((unhide R5).below hb6) (by omega))
  have SF6 := hide ((unhide SF5).below hb6)
  have N6 := hide ((unhide N5).below hb6)
  have L6 := hide ((unhide L5).below hb6)
  have K6 : Hid (Kp P W W6) := hide ((unhide K5).trans (Kp.of_below (N := fun _ => False) hb6) (fun i e => e.elim))
  clear HOp hb6 SF5 N5 L5 K5 R5 G5 d0 d1 df0 df1 dl hW5
  go_wp2_with fail
  refine (unhide HWi).mono ?_
  rintro r W8 ⟨rfl, k8⟩
  have z8 := k8.size
  have SF8 := hide ((unhide SF6).kp k8 (by omega) (by omega) (by omega) (by omega))
  have T8 : Hid (TS w W W8 P (fun i => (P i ∨ M ≤ i) ∧ i < W3.heap.size) R W3.heap.size b (.agg #[.slice ab4 B'.length cb4, .slice ao4 O'.length co4]) B' H O') := by
    refine hide ⟨(unhide L6).kp k8 (fun i e p => ?_), (unhide N6).kp k8 (fun i e q => ?_), (unhide K6).trans k8 (fun i e => .inr (by have := e.1; omega)), fun i p => ⟨p.1.imp id (fun p => by omega), p.2⟩, unhide HHR, by omega, by omega⟩
    · rcases p.1 with p | p
      · exact nP i (by have := e.1; omega) p
      · have := e.2; omega
    · rcases q with q | q
      · exact nR i (by have := e.1; omega) q
      · have := e.2; omega
  have HG : Hid ((W.heap.size ≤ gv ∧ gv < W3.heap.size ∧ ¬ ((P gv ∨ M ≤ gv) ∧ gv < W3.heap.size)) ∧ (W.heap.size ≤ Y.heap.size ∧ Y.heap.size < W3.heap.size ∧ ¬ ((P Y.heap.size ∨ M ≤ Y.heap.size) ∧ Y.heap.size < W3.heap.size))) := hide ⟨⟨by omega, by omega, fun p => by rcases p.1 with p | p; exact nP _ (by omega) p; omega⟩, by omega, by omega, fun p => by rcases p.1 with p | p; exact nP _ (by omega) p; omega⟩
  have BW := ((unhide T8).kp).below (unhide HW) (fun i p => (unhide HHP i p).1)
  clear HWi k8 SF6 N6 L6 K6
  have HVs := hide (vectors_in vl vl _ _ W8 (unhide SF8).m.ri ((unhide RV).below BW) (by omega) (by omega))
  rw [decide_eq_true rfl] at HVs
  have e12 := (unhide SF8).y.cell 12 _ rfl
  have el := (unhide SF8).y.lt
  clear BW
  go_wp2_with fail
  refine (unhide HVs).mono ?_
  rintro r W9 ⟨rfl, nd9, hW9⟩
  have hb9 : Below W8.heap.size W8 W9 := by rw [hW9]; exact bdrew (Below.refl _ _) _
  have S9 := hide ((unhide SF8).below hb9)
  have B9 := hide hb9
  have f12 := (unhide S9).y.cell 12 _ rfl
  have fl := (unhide S9).y.lt
  obtain ⟨m0, m1⟩ := (unhide S9).m.md
  have ml := (unhide S9).m.lo.2
  have XM : Hid (OwX W9 28 2 (.slice (some ⟨gv, 0, none⟩) (vl.length + 1) cm) (vl.length + 1)) := hide (OwX.of (unhide S9).m)
  have G9 : Hid (Kp (fun i => i = gv) W9 W9 ∧ SS W9 W9) := hide ⟨Kp.refl _ _, SS.refl _⟩
  have i1 : (vl.length : Int) < (vl.length : Int) + 1 := by omega
  clear HVs hW9 hb9 e12 el
  go_wp2
  clear f12 fl m0 m1 ml i1
  obtain ⟨LV, hLV⟩ : ∃ L, vl.length = L := ⟨_, rfl⟩
  rw [hLV] at XM h4 ⊢
  replace hLV := hide hLV
  go_loopw [20] (fun iv wr => ∃ i : Nat, iv = .int .i64 (i : Nat) ∧ i ≤ LV + 1 ∧ Hid (Kp (fun i => i = gv) W9 wr ∧ SS W9 wr)) (fun iv _ => LV + 1 - (RowKit.intOf iv).toNat)
  case atStart => exact ⟨0, rfl, by omega, G9⟩
  case round =>
    clear G9
    obtain ⟨i, rfl, hi, G9⟩ := hrel
    by_cases hlt : i < LV + 1
    · have hlt' : (i : Int) < (LV : Int) + 1 := by omega
      obtain ⟨g, hge, l0, fz, cc, _⟩ := ((unhide XM).ss (unhide G9).2).at (by omega)
      simp only [Option.some.injEq, Addr.mk.injEq, and_true] at hge
      subst hge
      obtain ⟨y0, d0⟩ := cc (i * 2) (by omega)
      obtain ⟨y1, d1⟩ := cc (i * 2 + 1) (by omega)
      have f0 := fz (i * 2)
      have f1 := fz (i * 2 + 1)
      have G10 : Hid (Kp (fun i => i = gv) W9 ((wr.setCell ⟨gv, i * 2, none⟩ (.int .i64 1)).setCell ⟨gv, i * 2 + 1, none⟩ (.int .i64 1)) ∧ SS W9 ((wr.setCell ⟨gv, i * 2, none⟩ (.int .i64 1)).setCell ⟨gv, i * 2 + 1, none⟩ (.int .i64 1))) :=
        hide ⟨((unhide G9).1.trans (Kp.set (N := fun k => k = gv) _ _ _ rfl) (fun i e => .inl e)).trans (Kp.set (N := fun k => k = gv) _ _ _ rfl) (fun i e => .inl e), ((unhide G9).2.trans (SS.set _ _ _ _)).trans (SS.set _ _ _ _)⟩
      clear G9 fz cc
      go_wp2
      go_roundw
      case rel => exact ⟨i + 1, by go_num, by omega, G10⟩
      case measure => simp [RowKit.intOf]; omega
    · have hlt' : ¬ (i : Int) < (LV : Int) + 1 := by omega
      have xr := (unhide S9).x.kp (unhide G9).1 (by omega)
      have zr := (unhide S9).z.kp (unhide G9).1 (by omega)
      have c0 := xr.cell 0 _ rfl
      have c1 := xr.cell 1 _ rfl
      have cl := xr.lt
      have d0 := zr.cell 0 _ rfl
      have d1 := zr.cell 1 _ rfl
      have f0 := zr.frozen 0
      have f1 := zr.frozen 1
      have dl := zr.lt
      have z2 := hide (box2 zr (.slice ab4 B'.length cb4) (.slice ao4 O'.length co4))
      have kf : Hid (Kp (fun i => i = gv ∨ i = Y.heap.size) W8 ((wr.setCell ⟨Y.heap.size, 0, none⟩ (.slice ab4 B'.length cb4)).setCell ⟨Y.heap.size, 1, none⟩ (.slice ao4 O'.length co4))) := hide (((Kp.of_below (unhide B9)).trans (unhide G9).1 (fun i e => .inl (.inl e))).trans (kp2 wr Y.heap.size (.slice ab4 B'.length cb4) (.slice ao4 O'.length co4)) (fun i e => .inl (.inr e)))
      clear xr zr G9 XM
      go_wp2
      refine bodyPost_ret (results_ct rfl _ _ (Y.heap.size) _ _ _ _ rfl (unhide z2) Tryz.underlying35 rfl sizeLg) rfl ?_
      exact TS.fin (unhide T8) (unhide kf) (unhide HG).1 (unhide HG).2

end Go.Proofs.YtijjoikeceechaaGreat
