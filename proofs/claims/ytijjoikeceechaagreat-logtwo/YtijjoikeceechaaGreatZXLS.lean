/-
  The law's step: add.
-/
import Derived.Test.YtijjoikeceechaaGreatZXLR6
import Derived.Deep.CutRange

set_option linter.unusedSimpArgs false
set_option linter.unusedVariables false
namespace Go.Proofs.YtijjoikeceechaaGreat
open Go.RowKit Go.Lib

set_option maxRecDepth 100000 in
set_option maxHeartbeats 16000000 in
theorem step_add {w W : World} {P R : Nat → Prop} {b : Nat} {B H : List (Int × Int)} {O : List Opn} (h : LL P W b B H O) (hP : ∀ i, P i → w.heap.size ≤ i ∧ i < W.heap.size) (hw : Below w.heap.size w W) (x : Value) (hx : LN R W x B O) (hR : ∀ i, R i → i < W.heap.size ∧ ¬ P i) (hRw : ∀ i, i < w.heap.size → R i) (hST : ST B H O) (hn : O.length ≤ 200) (s : Stp) (hs : StW w s) (h1 : s.op.deps.length ≤ 60000) (h2 : s.op.gone.length ≤ 60000) (h3 : s.op.text.size ≤ 60000) (h4 : s.vec.length ≤ 60000) (hk : s.kind = 1) :
    Calls Tryz.prog 11 #[.pointer (some ⟨b, 0, none⟩), x, stA s] W (StA W P R b (doB s B H) (doH s H) (doO s H O)) := by
  obtain ⟨kind, o, vl, vd, vg, vv⟩ := s
  obtain ⟨⟨⟨ad, cd, hd⟩, ⟨ag, cg, hg⟩, ⟨av, cv, hvv⟩⟩, rd, rg, rv, inn, kin⟩ := hs
  simp only at hd hg hvv rd rg rv inn kin h1 h2 h3 h4 hk
  subst hd hg hvv
  subst hk
  unfold doB doH doO stA
  simp only [if_true]
  obtain ⟨EE, hEE⟩ : ∃ x, addE H o = x := ⟨_, rfl⟩
  obtain ⟨H', hH'⟩ : ∃ x, (if EE = 0 then (addV H (o.ds, o.dq)).1 else H) = x := ⟨_, rfl⟩
  obtain ⟨O', hO'⟩ : ∃ x, (if EE = 0 then O ++ [o] else O) = x := ⟨_, rfl⟩
  rw [hEE, hH', hO']
  replace hEE := hide hEE
  replace hH' := hide hH'
  replace hO' := hide hO'
  have hx0 := hx
  obtain ⟨ab, cb, vo, rfl, hB, qB, hO⟩ := hx
  obtain ⟨ao, co, rfl⟩ := rn_form hO
  have lB := ck_len hST.nb
  have zw := hw.size
  obtain ⟨X, hX⟩ : ∃ X, W.alloc (.cells #[.slice ab B.length cb, .slice ao O.length co] 35) = X := ⟨_, rfl⟩
  obtain ⟨Y, hY⟩ : ∃ Y, X.alloc (.cells #[.int .i64 1, .int .i64 o.ds, .int .i64 o.dq, .slice ad o.deps.length cd, .int .i64 o.kind, .int .i64 o.it, .int .i64 o.is, .int .i64 o.rt, .int .i64 o.rs, .string o.text, .slice ag o.gone.length cg, .int .i64 o.site, .slice av vl.length cv] 47) = Y := ⟨_, rfl⟩
  obtain ⟨Z, hZ⟩ : ∃ Z, Y.alloc (.cells #[.slice none 0 0, .slice none 0 0] 35) = Z := ⟨_, rfl⟩
  have bX : Below W.heap.size W X := by rw [← hX]; exact ballc (Below.refl _ _) _
  have bY : Below X.heap.size X Y := by rw [← hY]; exact ballc (Below.refl _ _) _
  have bZ : Below Y.heap.size Y Z := by rw [← hZ]; exact ballc (Below.refl _ _) _
  have xX : Bx X W.heap.size 35 #[.slice ab B.length cb, .slice ao O.length co] := by rw [← hX]; exact Bx.new W _ _
  have yY : Bx Y X.heap.size 47 #[.int .i64 1, .int .i64 o.ds, .int .i64 o.dq, .slice ad o.deps.length cd, .int .i64 o.kind, .int .i64 o.it, .int .i64 o.is, .int .i64 o.rt, .int .i64 o.rs, .string o.text, .slice ag o.gone.length cg, .int .i64 o.site, .slice av vl.length cv] := by rw [← hY]; exact Bx.new X _ _
  have zZ : Bx Z Y.heap.size 35 #[.slice none 0 0, .slice none 0 0] := by rw [← hZ]; exact Bx.new Y _ _
  have wX : W.heap.size < X.heap.size := xX.lt
  have XY : X.heap.size < Y.heap.size := yY.lt
  have YZ : Y.heap.size < Z.heap.size := zZ.lt
  have bW := bnext (bnext bX bY) bZ
  have yZ := yY.below bZ
  obtain ⟨a1, c1, W1, gv, cm, W2, hap1, hap2, hm, b1, b2⟩ := mark_row Z av cv vl ((rv.below hw).below bW) (by omega)
  have sf2 : SF W2 W.heap.size X.heap.size Y.heap.size Z.heap.size (.slice ab B.length cb) (.slice ao O.length co) #[.int .i64 1, .int .i64 o.ds, .int .i64 o.dq, .slice ad o.deps.length cd, .int .i64 o.kind, .int .i64 o.it, .int .i64 o.is, .int .i64 o.rt, .int .i64 o.rs, .string o.text, .slice ag o.gone.length cg, .int .i64 o.site, .slice av vl.length cv] vl gv cm := ⟨((xX.below bY).below bZ).below b2, yZ.below b2, zZ.below b2, hm⟩
  have mcap := hm.cap
  have mlo := hm.lo
  have hsl := fun W n => sl_toVt W (some ⟨gv, 0, none⟩) n cm vl.length (by omega)
  have bW2 := bnext bW b2
  have z2 := b2.size
  have k12 := yZ.cell 12 _ rfl
  have kl := yZ.lt
  have j0 := sf2.y.cell 0 _ rfl
  have j12 := sf2.y.cell 12 _ rfl
  have jl := sf2.y.lt
  replace hap1 := hide hap1
  replace hap2 := hide hap2
  have hH : rvec B O = H := hST.rvec
  have hdW := (rd.below hw).below bW2
  have hgW := RC.below (RC.below rg hw) bW2
  have fit := inn.fit (by omega) (by omega) (by omega)
  have HTw := hide (twin_in o ad ag cd cg W2 hdW hgW (by omega) (by omega))
  have j1 := sf2.y.cell 1 _ rfl
  have j2 := sf2.y.cell 2 _ rfl
  have j3 := sf2.y.cell 3 _ rfl
  have j4 := sf2.y.cell 4 _ rfl
  have j5 := sf2.y.cell 5 _ rfl
  have j6 := sf2.y.cell 6 _ rfl
  have j7 := sf2.y.cell 7 _ rfl
  have j8 := sf2.y.cell 8 _ rfl
  have j9 := sf2.y.cell 9 _ rfl
  have j10 := sf2.y.cell 10 _ rfl
  have j11 := sf2.y.cell 11 _ rfl
  have RV := hide rv
  have RD := hide rd
  have RG := hide rg
  have HL := hide h
  have HX0 := hide hx0
  have HW := hide hw
  have BW2 := hide bW2
  have SF2 := hide sf2
  have QD : Hid (∀ k, rb (.slice ad o.deps.length cd) o.deps.length k → R k) := hide (fun k hk => hRw k (rb_lt rd hk))
  have QG : Hid (∀ k, rb (.slice ag o.gone.length cg) o.gone.length k → R k) := hide (fun k hk => hRw k (rb_lt rg hk))
  have HHR := hide hR
  have HHP := hide hP
  clear h hx0 hB qB hO hR hRw hST hP rv rd rg inn kin bX bY bZ xX yY zZ bW yZ hm b1 b2 sf2 bW2 hw hdW hgW
  go_enter Tryz.func11, Tryz.ntmps11
  go_upto_region 9 with (at_builtin; first | (have H1 := hap1; clear hap1; refine wpList_append_eq rfl _ _ 23 rfl _ _ _ _ rfl rfl (unhide H1) ?_; clear H1) | (have H2 := hap2; clear hap2; refine wpList_append_eq rfl _ _ 23 rfl _ _ _ _ rfl rfl (unhide H2) ?_; clear H2))
  go_wp2_with fail
  refine (unhide HTw).mono ?_
  rintro r W3 ⟨gd, ct, gg, cq, rfl, tw3, hb3⟩
  have z3 := hb3.size
  have SF3 := hide ((unhide SF2).below hb3)
  have B3 := hide (bnext (unhide BW2) hb3)
  obtain ⟨tlo, thi⟩ : (W2.heap.size ≤ gd ∧ gd < W3.heap.size) ∧ (W2.heap.size ≤ gg ∧ gg < W3.heap.size) := ⟨tw3.d.lt gd rfl, tw3.g.lt gg rfl⟩
  obtain ⟨U, hU⟩ : ∃ U, W3.alloc (.cells #[.int .i64 0, .int .i64 0, .slice none 0 0, .int .i64 0, .int .i64 0, .int .i64 0, .int .i64 0, .int .i64 0, .string ⟨#[]⟩, .slice none 0 0, .int .i64 0] 45) = U := ⟨_, rfl⟩
  have bU : Below W3.heap.size W3 U := by rw [← hU]; exact ballc (Below.refl _ _) _
  have xU : Bx U W3.heap.size 45 #[.int .i64 0, .int .i64 0, .slice none 0 0, .int .i64 0, .int .i64 0, .int .i64 0, .int .i64 0, .int .i64 0, .string ⟨#[]⟩, .slice none 0 0, .int .i64 0] := by rw [← hU]; exact Bx.new W3 _ _
  obtain ⟨u0, u1, u2, u3, u4, u5, u6, u7, u8, u9, u10⟩ := cells_op xU
  have uf0 := xU.frozen 0
  have uf1 := xU.frozen 1
  have uf2 := xU.frozen 2
  have uf3 := xU.frozen 3
  have uf4 := xU.frozen 4
  have uf5 := xU.frozen 5
  have uf6 := xU.frozen 6
  have uf7 := xU.frozen 7
  have uf8 := xU.frozen 8
  have uf9 := xU.frozen 9
  have uf10 := xU.frozen 10
  have ul := xU.lt
  obtain ⟨W4, hW4⟩ : ∃ V, (((((((((((U.setCell ⟨W3.heap.size, 0, none⟩ (.int .i64 o.ds)).setCell ⟨W3.heap.size, 1, none⟩ (.int .i64 o.dq)).setCell ⟨W3.heap.size, 2, none⟩ (.slice (some ⟨gd, 0, none⟩) o.deps.length ct)).setCell ⟨W3.heap.size, 3, none⟩ (.int .i64 o.kind)).setCell ⟨W3.heap.size, 4, none⟩ (.int .i64 o.it)).setCell ⟨W3.heap.size, 5, none⟩ (.int .i64 o.is)).setCell ⟨W3.heap.size, 6, none⟩ (.int .i64 o.rt)).setCell ⟨W3.heap.size, 7, none⟩ (.int .i64 o.rs)).setCell ⟨W3.heap.size, 8, none⟩ (.string o.text)).setCell ⟨W3.heap.size, 9, none⟩ (.slice (some ⟨gg, 0, none⟩) o.gone.length cq)).setCell ⟨W3.heap.size, 10, none⟩ (.int .i64 o.site)) = V := ⟨_, rfl⟩
  have t4 : Bx W4 W3.heap.size 45 #[.int .i64 o.ds, .int .i64 o.dq, .slice (some ⟨gd, 0, none⟩) o.deps.length ct, .int .i64 o.kind, .int .i64 o.it, .int .i64 o.is, .int .i64 o.rt, .int .i64 o.rs, .string o.text, .slice (some ⟨gg, 0, none⟩) o.gone.length cq, .int .i64 o.site] := by rw [← hW4]; exact Bx.set11 xU
  have k4 : Kp (fun k => k = W3.heap.size) U W4 := by rw [← hW4]; exact Kp.set11 U W3.heap.size (.int .i64 o.ds) (.int .i64 o.dq) (.slice (some ⟨gd, 0, none⟩) o.deps.length ct) (.int .i64 o.kind) (.int .i64 o.it) (.int .i64 o.is) (.int .i64 o.rt) (.int .i64 o.rs) (.string o.text) (.slice (some ⟨gg, 0, none⟩) o.gone.length cq) (.int .i64 o.site)
  have b34 : Below W3.heap.size W3 W4 := k4.below bU (fun i e => by omega)
  have z4 := b34.size
  have tw4 := tw3.below b34
  have SF4 := hide ((unhide SF3).below b34)
  have B4 := hide (bnext (unhide B3) b34)
  have HA := hide (LAdd_in ((unhide HL).below (unhide B4)) (fun i hi => by have := (unhide HHP i hi).2; have := (unhide B4).size; omega) (by omega) o (some ⟨gd, 0, none⟩) (some ⟨gg, 0, none⟩) ct cq tw4.ri tw4.rr fit (by omega) (by omega) (by omega))
  unfold AddA at HA
  rw [unhide hEE, unhide hH', unhide hO'] at HA
  obtain ⟨v0, v1, v2, v3, v4, v5, v6, v7, v8, v9, v10⟩ := cells_op t4
  have vl4 := t4.lt
  have T4 := hide t4
  have TW4 := hide tw4
  clear HTw hb3 tw3 bU xU t4 tw4 k4 b34 j0 j1 j2 j3 j4 j5 j6 j7 j8 j9 j10 j11 j12 k12
  go_wp2_with fail
  refine (unhide HA).mono ?_
  rintro r W5 ⟨rfl, hl5, k5⟩
  have z5 := k5.size
  have z04 := (unhide B4).size
  have nP : ∀ i, W.heap.size ≤ i → ¬ P i := fun i hi p => by have := (unhide HHP i p).2; omega
  have SF5 := hide ((unhide SF4).kp k5 (nP _ (by omega)) (nP _ (by omega)) (nP _ (by omega)) (nP _ (by omega)))
  have T5 := hide ((unhide T4).kp k5 (nP _ (by omega)))
  have TW5 : Hid (Tw W5 W2.heap.size o.deps o.gone gd ct gg cq) := hide ⟨owns_kp (unhide TW4).d k5 (fun i hi => by simp [Value.ownBlock] at hi; subst hi; exact nP _ (by omega)), owns_kp (unhide TW4).g k5 (fun i hi => by simp [Value.ownBlock] at hi; subst hi; exact nP _ (by omega))⟩
  have HX5 := hide (((unhide HX0).below (unhide B4)).kp k5 (fun i p q => (unhide HHR i q).2 p))
  have L5 := hide hl5.lt
  have K5 : Hid (Kp P W W5) := hide ((Kp.of_below (unhide B4)).trans k5 (fun i p => .inl p))
  have BW5 := hide ((unhide K5).below (unhide HW) (fun i p => (unhide HHP i p).1))
  obtain ⟨ab5, cb5, vo5, e5, hB5, qB5, hO5⟩ := unhide HX5
  simp only [Value.agg.injEq, Array.mk.injEq, List.cons.injEq, Value.slice.injEq, true_and, and_true] at e5
  obtain ⟨⟨rfl, rfl⟩, rfl⟩ := e5
  have HRA := hide (refAdd_in ab cb _ B H O o ad ag cd cg W5 hB5 hO5 (fun i q => by have := (unhide HHR i q).1; omega) hH (by omega) (by omega) ((unhide RD).below (unhide BW5)) (RC.below (unhide RG) (unhide BW5)) fit (by omega) (by omega) (by omega) (unhide QD) (unhide QG))
  have c0 := (unhide SF5).x.cell 0 _ rfl
  have c1 := (unhide SF5).x.cell 1 _ rfl
  have cl := (unhide SF5).x.lt
  have j1 := (unhide SF5).y.cell 1 _ rfl
  have j2 := (unhide SF5).y.cell 2 _ rfl
  have j3 := (unhide SF5).y.cell 3 _ rfl
  have j4 := (unhide SF5).y.cell 4 _ rfl
  have j5 := (unhide SF5).y.cell 5 _ rfl
  have j6 := (unhide SF5).y.cell 6 _ rfl
  have j7 := (unhide SF5).y.cell 7 _ rfl
  have j8 := (unhide SF5).y.cell 8 _ rfl
  have j9 := (unhide SF5).y.cell 9 _ rfl
  have j10 := (unhide SF5).y.cell 10 _ rfl
  have j11 := (unhide SF5).y.cell 11 _ rfl
  have jl5 := (unhide SF5).y.lt
  rw [unhide hEE, unhide hO'] at HRA
  clear HA hl5 k5 hB5 hO5 hU hW4 u0 u1 u2 u3 u4 u5 u6 u7 u8 u9 u10 uf0 uf1 uf2 uf3 uf4 uf5 uf6 uf7 uf8 uf9 uf10 ul v0 v1 v2 v3 v4 v5 v6 v7 v8 v9 v10 vl4
  go_wp2_with fail
  refine (unhide HRA).mono ?_
  rintro r W6 ⟨vo6, rfl, hn6, hb6⟩
  obtain ⟨ao6, co6, rfl⟩ := rn_form hn6
  have z6 := hb6.size
  have sf6 := (unhide SF5).below hb6
  have d0 := sf6.x.cell 0 _ rfl
  have d1 := sf6.x.cell 1 _ rfl
  have df0 := sf6.x.frozen 0
  have df1 := sf6.x.frozen 1
  have dl := sf6.x.lt
  obtain ⟨W7, hW7⟩ : ∃ V, ((W6.setCell ⟨W.heap.size, 0, none⟩ (.slice ab B.length cb)).setCell ⟨W.heap.size, 1, none⟩ (.slice ao6 O'.length co6)) = V := ⟨_, rfl⟩
  have k7 : Kp (fun k => k = W.heap.size) W6 W7 := by rw [← hW7]; exact kp2 W6 W.heap.size _ _
  have sf7 : SF W7 W.heap.size X.heap.size Y.heap.size Z.heap.size (.slice ab B.length cb) (.slice ao6 O'.length co6) #[.int .i64 1, .int .i64 o.ds, .int .i64 o.dq, .slice ad o.deps.length cd, .int .i64 o.kind, .int .i64 o.it, .int .i64 o.is, .int .i64 o.rt, .int .i64 o.rs, .string o.text, .slice ag o.gone.length cg, .int .i64 o.site, .slice av vl.length cv] vl gv cm := by rw [← hW7]; exact sf6.setx _ _ (by omega) (by omega) (by omega)
  have t7 := ((unhide T5).below hb6).kp k7 (by omega)
  have tw6 := (unhide TW5).below hb6
  have tw7 : Tw W7 W2.heap.size o.deps o.gone gd ct gg cq := ⟨owns_kp tw6.d k7 (fun i hi e => by simp [Value.ownBlock] at hi; omega), owns_kp tw6.g k7 (fun i hi e => by simp [Value.ownBlock] at hi; omega)⟩
  have BW7 := hide (k7.below (bnext (unhide BW5) hb6) (fun i e => by omega))
  have HSp := hide (spoil_in o ad ag cd cg W2.heap.size gd ct gg cq W7 tw7 ((unhide RD).below (unhide BW7)) (RC.below (unhide RG) (unhide BW7)) (by omega) (by omega))
  have K7 : Hid (Kp P W W7) := hide (((unhide K5).trans (Kp.of_below (N := fun _ => False) hb6) (fun i e => e.elim)).trans k7 (fun i e => .inr (by omega)))
  have L7 : Hid (LL (fun i => (P i ∨ W4.heap.size ≤ i) ∧ i < W5.heap.size) W7 b B H' O') := hide (((unhide L5).below hb6).kp k7 (fun i e p => by subst e; rcases p.1 with p | p; exact nP _ (Nat.le_refl _) p; omega))
  have N7 : Hid (LN (fun i => R i ∨ W5.heap.size ≤ i) W7 (.agg #[.slice ab B.length cb, .slice ao6 O'.length co6]) B O') := by
    obtain ⟨ab9, cb9, vo9, e9, hB9, qB9, _⟩ := (unhide HX5).below hb6
    simp only [Value.agg.injEq, Array.mk.injEq, List.cons.injEq, Value.slice.injEq, true_and, and_true] at e9
    obtain ⟨⟨rfl, rfl⟩, _⟩ := e9
    have ln6 : LN (fun i => R i ∨ W5.heap.size ≤ i) W6 (.agg #[.slice ab B.length cb, .slice ao6 O'.length co6]) B O' := ⟨ab, cb, _, rfl, hB9, fun k hk => .inl (qB9 k hk), hn6⟩
    exact hide (ln6.kp k7 (fun i e q => by subst e; rcases q with q | q; exact absurd (unhide HHR _ q).1 (by omega); omega))
  obtain ⟨q0, q1, q2, q3, q4, q5, q6, q7, q8, q9, q10⟩ := cells_op t7
  have ql := t7.lt
  have i1 := sf7.y.cell 1 _ rfl
  have i2 := sf7.y.cell 2 _ rfl
  have i3 := sf7.y.cell 3 _ rfl
  have i4 := sf7.y.cell 4 _ rfl
  have i5 := sf7.y.cell 5 _ rfl
  have i6 := sf7.y.cell 6 _ rfl
  have i7 := sf7.y.cell 7 _ rfl
  have i8 := sf7.y.cell 8 _ rfl
  have i9 := sf7.y.cell 9 _ rfl
  have i10 := sf7.y.cell 10 _ rfl
  have i11 := sf7.y.cell 11 _ rfl
  have il := sf7.y.lt
  have SF7 := hide sf7
  clear HRA hn6 sf6 t7 tw6 tw7 sf7 c0 c1 cl j1 j2 j3 j4 j5 j6 j7 j8 j9 j10 j11 jl5 K5 L5 T4 T5 TW4 TW5 SF2 SF3 SF4 SF5 HX0 HX5 BW5
  go_wp2_with fail
  refine (unhide HSp).mono ?_
  rintro r W8 ⟨rfl, k8⟩
  have z7 := k7.size
  have z8 := k8.size
  have SF8 := hide ((unhide SF7).kp k8 (by omega) (by omega) (by omega) (by omega))
  have T8 : Hid (TS w W W8 P (fun i => (P i ∨ W4.heap.size ≤ i) ∧ i < W5.heap.size) R W5.heap.size b (.agg #[.slice ab B.length cb, .slice ao6 O'.length co6]) B H' O') := by
    refine hide ⟨(unhide L7).kp k8 (fun i e p => ?_), (unhide N7).kp k8 (fun i e q => ?_), (unhide K7).trans k8 (fun i e => .inr (by omega)), fun i p => ⟨p.1.imp id (fun p => by omega), p.2⟩, unhide HHR, by omega, by omega⟩
    · rcases p.1 with p | p
      · exact nP i (by omega) p
      · omega
    · rcases q with q | q
      · have := (unhide HHR i q).1; omega
      · omega
  have HG : Hid ((W.heap.size ≤ gv ∧ gv < W5.heap.size ∧ ¬ ((P gv ∨ W4.heap.size ≤ gv) ∧ gv < W5.heap.size)) ∧ (W.heap.size ≤ Y.heap.size ∧ Y.heap.size < W5.heap.size ∧ ¬ ((P Y.heap.size ∨ W4.heap.size ≤ Y.heap.size) ∧ Y.heap.size < W5.heap.size))) := hide ⟨⟨by omega, by omega, fun p => by rcases p.1 with p | p; exact nP _ (by omega) p; omega⟩, by omega, by omega, fun p => by rcases p.1 with p | p; exact nP _ (by omega) p; omega⟩
  have BW := k8.below (unhide BW7) (fun i e => by omega)
  clear HSp k8 k7 SF7 K7 L7 N7 hb6 q0 q1 q2 q3 q4 q5 q6 q7 q8 q9 q10 ql i1 i2 i3 i4 i5 i6 i7 i8 i9 i10 i11 il d0 d1 df0 df1 dl hW7
  have HVs := hide (vectors_in vl vl _ _ W8 (unhide SF8).m.ri ((unhide RV).below BW) (by omega) (by omega))
  rw [decide_eq_true rfl] at HVs
  have e12 := (unhide SF8).y.cell 12 _ rfl
  have el := (unhide SF8).y.lt
  clear BW
  go_wp2_with fail
  refine (unhide HVs).mono ?_
  rintro r W9 ⟨rfl, nd9, hW9⟩
  have hb9 : Below W8.heap.size W8 W9 := by rw [hW9]; exact bdrew (Below.refl _ _) _
  have S9 := hide ((unhide SF8).below hb9)
  have B9 := hide hb9
  have f12 := (unhide S9).y.cell 12 _ rfl
  have fl := (unhide S9).y.lt
  obtain ⟨m0, m1⟩ := (unhide S9).m.md
  have ml := (unhide S9).m.lo.2
  have XM : Hid (OwX W9 28 2 (.slice (some ⟨gv, 0, none⟩) (vl.length + 1) cm) (vl.length + 1)) := hide (OwX.of (unhide S9).m)
  have G9 : Hid (Kp (fun i => i = gv) W9 W9 ∧ SS W9 W9) := hide ⟨Kp.refl _ _, SS.refl _⟩
  have i1 : (vl.length : Int) < (vl.length : Int) + 1 := by omega
  clear HVs hW9 hb9 e12 el
  go_wp2
  clear f12 fl m0 m1 ml i1
  obtain ⟨LV, hLV⟩ : ∃ L, vl.length = L := ⟨_, rfl⟩
  rw [hLV] at XM h4 ⊢
  replace hLV := hide hLV
  go_loopw [20] (fun iv wr => ∃ i : Nat, iv = .int .i64 (i : Nat) ∧ i ≤ LV + 1 ∧ Hid (Kp (fun i => i = gv) W9 wr ∧ SS W9 wr)) (fun iv _ => LV + 1 - (RowKit.intOf iv).toNat)
  case atStart => exact ⟨0, rfl, by omega, G9⟩
  case round =>
    clear G9
    obtain ⟨i, rfl, hi, G9⟩ := hrel
    by_cases hlt : i < LV + 1
    · have hlt' : (i : Int) < (LV : Int) + 1 := by omega
      obtain ⟨g, hge, l0, fz, cc, _⟩ := ((unhide XM).ss (unhide G9).2).at (by omega)
      simp only [Option.some.injEq, Addr.mk.injEq, and_true] at hge
      subst hge
      obtain ⟨y0, d0⟩ := cc (i * 2) (by omega)
      obtain ⟨y1, d1⟩ := cc (i * 2 + 1) (by omega)
      have f0 := fz (i * 2)
      have f1 := fz (i * 2 + 1)
      have G10 : Hid (Kp (fun i => i = gv) W9 ((wr.setCell ⟨gv, i * 2, none⟩ (.int .i64 1)).setCell ⟨gv, i * 2 + 1, none⟩ (.int .i64 1)) ∧ SS W9 ((wr.setCell ⟨gv, i * 2, none⟩ (.int .i64 1)).setCell ⟨gv, i * 2 + 1, none⟩ (.int .i64 1))) :=
        hide ⟨((unhide G9).1.trans (Kp.set (N := fun k => k = gv) _ _ _ rfl) (fun i e => .inl e)).trans (Kp.set (N := fun k => k = gv) _ _ _ rfl) (fun i e => .inl e), ((unhide G9).2.trans (SS.set _ _ _ _)).trans (SS.set _ _ _ _)⟩
      clear G9 fz cc
      go_wp2
      go_roundw
      case rel => exact ⟨i + 1, by go_num, by omega, G10⟩
      case measure => simp [RowKit.intOf]; omega
    · have hlt' : ¬ (i : Int) < (LV : Int) + 1 := by omega
      have xr := (unhide S9).x.kp (unhide G9).1 (by omega)
      have zr := (unhide S9).z.kp (unhide G9).1 (by omega)
      have c0 := xr.cell 0 _ rfl
      have c1 := xr.cell 1 _ rfl
      have cl := xr.lt
      have d0 := zr.cell 0 _ rfl
      have d1 := zr.cell 1 _ rfl
      have f0 := zr.frozen 0
      have f1 := zr.frozen 1
      have dl := zr.lt
      have z2 := hide (box2 zr (.slice ab B.length cb) (.slice ao6 O'.length co6))
      have kf : Hid (Kp (fun i => i = gv ∨ i = Y.heap.size) W8 ((wr.setCell ⟨Y.heap.size, 0, none⟩ (.slice ab B.length cb)).setCell ⟨Y.heap.size, 1, none⟩ (.slice ao6 O'.length co6))) := hide (((Kp.of_below (unhide B9)).trans (unhide G9).1 (fun i e => .inl (.inl e))).trans (kp2 wr Y.heap.size (.slice ab B.length cb) (.slice ao6 O'.length co6)) (fun i e => .inl (.inr e)))
      clear xr zr G9 XM
      go_wp2
      refine bodyPost_ret (results_ct rfl _ _ (Y.heap.size) _ _ _ _ rfl (unhide z2) Tryz.underlying35 rfl sizeLg) rfl ?_
      exact TS.fin (unhide T8) (unhide kf) (unhide HG).1 (unhide HG).2

end Go.Proofs.YtijjoikeceechaaGreat

/-
  The law's step: else.
-/
set_option linter.unusedSimpArgs false
set_option linter.unusedVariables false
namespace Go.Proofs.YtijjoikeceechaaGreat
open Go.RowKit Go.Lib

set_option maxRecDepth 100000 in
set_option maxHeartbeats 16000000 in
theorem step_else {w W : World} {P R : Nat → Prop} {b : Nat} {B H : List (Int × Int)} {O : List Opn} (h : LL P W b B H O) (hP : ∀ i, P i → w.heap.size ≤ i ∧ i < W.heap.size) (hw : Below w.heap.size w W) (x : Value) (hx : LN R W x B O) (hR : ∀ i, R i → i < W.heap.size ∧ ¬ P i) (hRw : ∀ i, i < w.heap.size → R i) (hST : ST B H O) (hn : O.length ≤ 200) (s : Stp) (hs : StW w s) (h1 : s.op.deps.length ≤ 60000) (h2 : s.op.gone.length ≤ 60000) (h3 : s.op.text.size ≤ 60000) (h4 : s.vec.length ≤ 60000) (hk : s.kind ≠ 1 ∧ s.kind ≠ 2 ∧ s.kind ≠ 3) :
    Calls Tryz.prog 11 #[.pointer (some ⟨b, 0, none⟩), x, stA s] W (StA W P R b (doB s B H) (doH s H) (doO s H O)) := by
  obtain ⟨kind, o, vl, vd, vg, vv⟩ := s
  obtain ⟨⟨⟨ad, cd, hd⟩, ⟨ag, cg, hg⟩, ⟨av, cv, hvv⟩⟩, rd, rg, rv, inn, kin⟩ := hs
  simp only at hd hg hvv rd rg rv inn kin h1 h2 h3 h4 hk
  subst hd hg hvv
  unfold doB doH doO stA
  simp only [if_neg hk.1, if_neg hk.2.2]
  have hk1 : (kind == 1) = false := by simpa using hk.1
  have hk2 : (kind == 2) = false := by simpa using hk.2.1
  have hk3 : (kind == 3) = false := by simpa using hk.2.2
  have hx0 := hx
  obtain ⟨ab, cb, vo, rfl, hB, qB, hO⟩ := hx
  obtain ⟨ao, co, rfl⟩ := rn_form hO
  have lB := ck_len hST.nb
  have zw := hw.size
  obtain ⟨X, hX⟩ : ∃ X, W.alloc (.cells #[.slice ab B.length cb, .slice ao O.length co] 35) = X := ⟨_, rfl⟩
  obtain ⟨Y, hY⟩ : ∃ Y, X.alloc (.cells #[.int .i64 kind, .int .i64 o.ds, .int .i64 o.dq, .slice ad o.deps.length cd, .int .i64 o.kind, .int .i64 o.it, .int .i64 o.is, .int .i64 o.rt, .int .i64 o.rs, .string o.text, .slice ag o.gone.length cg, .int .i64 o.site, .slice av vl.length cv] 47) = Y := ⟨_, rfl⟩
  obtain ⟨Z, hZ⟩ : ∃ Z, Y.alloc (.cells #[.slice none 0 0, .slice none 0 0] 35) = Z := ⟨_, rfl⟩
  have bX : Below W.heap.size W X := by rw [← hX]; exact ballc (Below.refl _ _) _
  have bY : Below X.heap.size X Y := by rw [← hY]; exact ballc (Below.refl _ _) _
  have bZ : Below Y.heap.size Y Z := by rw [← hZ]; exact ballc (Below.refl _ _) _
  have xX : Bx X W.heap.size 35 #[.slice ab B.length cb, .slice ao O.length co] := by rw [← hX]; exact Bx.new W _ _
  have yY : Bx Y X.heap.size 47 #[.int .i64 kind, .int .i64 o.ds, .int .i64 o.dq, .slice ad o.deps.length cd, .int .i64 o.kind, .int .i64 o.it, .int .i64 o.is, .int .i64 o.rt, .int .i64 o.rs, .string o.text, .slice ag o.gone.length cg, .int .i64 o.site, .slice av vl.length cv] := by rw [← hY]; exact Bx.new X _ _
  have zZ : Bx Z Y.heap.size 35 #[.slice none 0 0, .slice none 0 0] := by rw [← hZ]; exact Bx.new Y _ _
  have wX : W.heap.size < X.heap.size := xX.lt
  have XY : X.heap.size < Y.heap.size := yY.lt
  have YZ : Y.heap.size < Z.heap.size := zZ.lt
  have bW := bnext (bnext bX bY) bZ
  have yZ := yY.below bZ
  obtain ⟨a1, c1, W1, gv, cm, W2, hap1, hap2, hm, b1, b2⟩ := mark_row Z av cv vl ((rv.below hw).below bW) (by omega)
  have sf2 : SF W2 W.heap.size X.heap.size Y.heap.size Z.heap.size (.slice ab B.length cb) (.slice ao O.length co) #[.int .i64 kind, .int .i64 o.ds, .int .i64 o.dq, .slice ad o.deps.length cd, .int .i64 o.kind, .int .i64 o.it, .int .i64 o.is, .int .i64 o.rt, .int .i64 o.rs, .string o.text, .slice ag o.gone.length cg, .int .i64 o.site, .slice av vl.length cv] vl gv cm := ⟨((xX.below bY).below bZ).below b2, yZ.below b2, zZ.below b2, hm⟩
  have mcap := hm.cap
  have mlo := hm.lo
  have hsl := fun W n => sl_toVt W (some ⟨gv, 0, none⟩) n cm vl.length (by omega)
  have bW2 := bnext bW b2
  have z2 := b2.size
  have k12 := yZ.cell 12 _ rfl
  have kl := yZ.lt
  have j0 := sf2.y.cell 0 _ rfl
  have j12 := sf2.y.cell 12 _ rfl
  have jl := sf2.y.lt
  replace hap1 := hide hap1
  replace hap2 := hide hap2
  have T2 : Hid (TS w W W2 P P R W2.heap.size b (.agg #[.slice ab B.length cb, .slice ao O.length co]) B H O) := hide ⟨h.below bW2, (hx0.below bW2).mono (fun i _ q => .inl q), Kp.of_below bW2, fun i p => ⟨.inl p, by have := (hP i p).2; omega⟩, hR, bW2.size, Nat.le_refl _⟩
  have HG : Hid ((W.heap.size ≤ gv ∧ gv < W2.heap.size ∧ ¬ P gv) ∧ (W.heap.size ≤ Y.heap.size ∧ Y.heap.size < W2.heap.size ∧ ¬ P Y.heap.size)) := hide ⟨⟨by omega, mlo.2, fun p => by have := (hP _ p).2; omega⟩, by omega, by omega, fun p => by have := (hP _ p).2; omega⟩
  have RV := hide rv
  have BW := bnext hw bW2
  have SF2 := hide sf2
  clear h hx0 hB qB hO hR hRw hST hP rd rg inn kin bX bY bZ xX yY zZ bW yZ hm b1 b2 sf2 bW2 hw hk
  go_enter Tryz.func11, Tryz.ntmps11
  have HVs := hide (vectors_in vl vl _ _ W2 (unhide SF2).m.ri ((unhide RV).below BW) (by omega) (by omega))
  rw [decide_eq_true rfl] at HVs
  have e12 := (unhide SF2).y.cell 12 _ rfl
  have el := (unhide SF2).y.lt
  clear BW rv
  go_wp2_with (at_builtin; first | (have H1 := hap1; clear hap1; refine wpList_append_eq rfl _ _ 23 rfl _ _ _ _ rfl rfl (unhide H1) ?_; clear H1) | (have H2 := hap2; clear hap2; refine wpList_append_eq rfl _ _ 23 rfl _ _ _ _ rfl rfl (unhide H2) ?_; clear H2))
  refine (unhide HVs).mono ?_
  rintro r W9 ⟨rfl, nd9, hW9⟩
  have hb9 : Below W2.heap.size W2 W9 := by rw [hW9]; exact bdrew (Below.refl _ _) _
  have S9 := hide ((unhide SF2).below hb9)
  have B9 := hide hb9
  have f12 := (unhide S9).y.cell 12 _ rfl
  have fl := (unhide S9).y.lt
  obtain ⟨m0, m1⟩ := (unhide S9).m.md
  have ml := (unhide S9).m.lo.2
  have XM : Hid (OwX W9 28 2 (.slice (some ⟨gv, 0, none⟩) (vl.length + 1) cm) (vl.length + 1)) := hide (OwX.of (unhide S9).m)
  have G9 : Hid (Kp (fun i => i = gv) W9 W9 ∧ SS W9 W9) := hide ⟨Kp.refl _ _, SS.refl _⟩
  have i1 : (vl.length : Int) < (vl.length : Int) + 1 := by omega
  clear HVs hW9 hb9 e12 el
  go_wp2
  clear f12 fl m0 m1 ml i1
  obtain ⟨LV, hLV⟩ : ∃ L, vl.length = L := ⟨_, rfl⟩
  rw [hLV] at XM h4 ⊢
  replace hLV := hide hLV
  go_loopw [20] (fun iv wr => ∃ i : Nat, iv = .int .i64 (i : Nat) ∧ i ≤ LV + 1 ∧ Hid (Kp (fun i => i = gv) W9 wr ∧ SS W9 wr)) (fun iv _ => LV + 1 - (RowKit.intOf iv).toNat)
  case atStart => exact ⟨0, rfl, by omega, G9⟩
  case round =>
    clear G9
    obtain ⟨i, rfl, hi, G9⟩ := hrel
    by_cases hlt : i < LV + 1
    · have hlt' : (i : Int) < (LV : Int) + 1 := by omega
      obtain ⟨g, hge, l0, fz, cc, _⟩ := ((unhide XM).ss (unhide G9).2).at (by omega)
      simp only [Option.some.injEq, Addr.mk.injEq, and_true] at hge
      subst hge
      obtain ⟨y0, d0⟩ := cc (i * 2) (by omega)
      obtain ⟨y1, d1⟩ := cc (i * 2 + 1) (by omega)
      have f0 := fz (i * 2)
      have f1 := fz (i * 2 + 1)
      have G10 : Hid (Kp (fun i => i = gv) W9 ((wr.setCell ⟨gv, i * 2, none⟩ (.int .i64 1)).setCell ⟨gv, i * 2 + 1, none⟩ (.int .i64 1)) ∧ SS W9 ((wr.setCell ⟨gv, i * 2, none⟩ (.int .i64 1)).setCell ⟨gv, i * 2 + 1, none⟩ (.int .i64 1))) :=
        hide ⟨((unhide G9).1.trans (Kp.set (N := fun k => k = gv) _ _ _ rfl) (fun i e => .inl e)).trans (Kp.set (N := fun k => k = gv) _ _ _ rfl) (fun i e => .inl e), ((unhide G9).2.trans (SS.set _ _ _ _)).trans (SS.set _ _ _ _)⟩
      clear G9 fz cc
      go_wp2
      go_roundw
      case rel => exact ⟨i + 1, by go_num, by omega, G10⟩
      case measure => simp [RowKit.intOf]; omega
    · have hlt' : ¬ (i : Int) < (LV : Int) + 1 := by omega
      have xr := (unhide S9).x.kp (unhide G9).1 (by omega)
      have zr := (unhide S9).z.kp (unhide G9).1 (by omega)
      have c0 := xr.cell 0 _ rfl
      have c1 := xr.cell 1 _ rfl
      have cl := xr.lt
      have d0 := zr.cell 0 _ rfl
      have d1 := zr.cell 1 _ rfl
      have f0 := zr.frozen 0
      have f1 := zr.frozen 1
      have dl := zr.lt
      have z2 := hide (box2 zr (.slice ab B.length cb) (.slice ao O.length co))
      have kf : Hid (Kp (fun i => i = gv ∨ i = Y.heap.size) W2 ((wr.setCell ⟨Y.heap.size, 0, none⟩ (.slice ab B.length cb)).setCell ⟨Y.heap.size, 1, none⟩ (.slice ao O.length co))) := hide (((Kp.of_below (unhide B9)).trans (unhide G9).1 (fun i e => .inl (.inl e))).trans (kp2 wr Y.heap.size (.slice ab B.length cb) (.slice ao O.length co)) (fun i e => .inl (.inr e)))
      clear xr zr G9 XM
      go_wp2
      refine bodyPost_ret (results_ct rfl _ _ (Y.heap.size) _ _ _ _ rfl (unhide z2) Tryz.underlying35 rfl sizeLg) rfl ?_
      exact TS.fin (unhide T2) (unhide kf) (unhide HG).1 (unhide HG).2

end Go.Proofs.YtijjoikeceechaaGreat
