/-
  The outer of two walks through an iterator: one call.
-/
import Derived.Test.YtijjoikeceechaaGreatZXLB4
import Derived.Deep.RegionHeld3
import Derived.Deep.CutRange
set_option linter.unusedSimpArgs false
set_option linter.unusedVariables false
namespace Go.Proofs.YtijjoikeceechaaGreat
open Go.RowKit Go.Lib

set_option maxRecDepth 100000 in
set_option maxHeartbeats 16000000 in
theorem outer1_in {w Wc W1 : World} {Z D : Nat → Prop} {b k1 k2 k3 k4 k5 k6 k7 k8 nb n : Nat} {aw am : Option Addr} {cw len4 cap4 : Nat} {v : Value} {stop : Int} {BY : List Opn} {ops : List (Opn × Value × Value)} (mm : List Stp) (hmm : RC w (.slice am len4 cap4) mm.length (flat encS mm)) (hml : mm.length = len4) (hm20 : len4 ≤ 20) (hst : ∀ e ∈ mm, StW w e) (hsm : ∀ s ∈ mm, s.op.text.size ≤ 60000 ∧ s.op.deps.length ≤ 60000 ∧ s.op.gone.length ≤ 60000 ∧ s.vec.length ≤ 60000) (h : JO w Z D b k1 k2 k3 k4 k5 k6 k7 k8 nb (.slice aw BY.length cw) (.slice am len4 cap4) v stop BY ops n Wc) (hb : Below Wc.heap.size Wc W1) (o : Opn) (ho : BY[n]? = some o) (a1 a2 : Option Addr) (c1 c2 : Nat) (hd : OwD W1 Wc.heap.size (.slice a1 o.deps.length c1) o.deps) (hg : OwR W1 Wc.heap.size (.slice a2 o.gone.length c2) o.gone) (l1 : o.deps.length ≤ 1000000) (l2 : o.gone.length ≤ 1000000) (hl : BY.length ≤ 1000000) :
    Calls Tryz.prog 16 #[opA o (.slice a1 o.deps.length c1) (.slice a2 o.gone.length c2), .pointer (some ⟨k1, 0, none⟩), .pointer (some ⟨k2, 0, none⟩), .pointer (some ⟨k3, 0, none⟩), .pointer (some ⟨k4, 0, none⟩), .pointer (some ⟨k5, 0, none⟩), .pointer (some ⟨k6, 0, none⟩), .pointer (some ⟨k7, 0, none⟩), .pointer (some ⟨k8, 0, none⟩)] W1 fun e W' => e = .returned (.bool true) ∧ JO w Z D b k1 k2 k3 k4 k5 k6 k7 k8 nb (.slice aw BY.length cw) (.slice am len4 cap4) v stop BY ops (n + 1) W' := by
  obtain ⟨X, hX⟩ : ∃ X, W1.alloc (.cells #[.int .i64 o.ds, .int .i64 o.dq, .slice a1 o.deps.length c1, .int .i64 o.kind, .int .i64 o.it, .int .i64 o.is, .int .i64 o.rt, .int .i64 o.rs, .string o.text, .slice a2 o.gone.length c2, .int .i64 o.site] 45) = X := ⟨_, rfl⟩
  have bX : Below W1.heap.size W1 X := by rw [← hX]; exact ballc (Below.refl _ _) _
  have xX : Bx X W1.heap.size 45 #[.int .i64 o.ds, .int .i64 o.dq, .slice a1 o.deps.length c1, .int .i64 o.kind, .int .i64 o.it, .int .i64 o.is, .int .i64 o.rt, .int .i64 o.rs, .string o.text, .slice a2 o.gone.length c2, .int .i64 o.site] := by rw [← hX]; exact Bx.new W1 _ _
  have hX2 := (h.below hb).below bX
  obtain ⟨aw', nw, cw', b0, off, ad, cd, ag, cg, hwv, hnw, haw, hb0, hc, rd, rg, _, _⟩ := rn_at hX2.bs.wn ho
  simp only [Value.slice.injEq] at hwv
  obtain ⟨rfl, -, rfl⟩ := hwv
  subst haw
  have hn : n < BY.length := (List.getElem?_eq_some_iff.1 ho).1
  have hn' : (n : Int) < (BY.length : Int) := by omega
  have HSm := hide (fun (V : World) (hb : Hid (Below X.heap.size X V)) => lsame_in o _ _ _ _ V ((hd.row.below bX).below (unhide hb)) (RC.below (RC.below (RC.of_owns hg) bX) (unhide hb)) (rd.below (unhide hb)) (RC.below rg (unhide hb)) l1 l2)
  unfold opA at HSm ⊢
  obtain ⟨p0, p1, p2, p3, p4, p5, p6, p7, p8, p9, p10⟩ := cells_op xX
  have q0 := hc 0 _ rfl
  have q1 := hc 1 _ rfl
  have q2 := hc 2 _ rfl
  have q3 := hc 3 _ rfl
  have q4 := hc 4 _ rfl
  have q5 := hc 5 _ rfl
  have q6 := hc 6 _ rfl
  have q7 := hc 7 _ rfl
  have q8 := hc 8 _ rfl
  have q9 := hc 9 _ rfl
  have q10 := hc 10 _ rfl
  simp only [Nat.add_zero] at q0 q1 q2 q3 q4 q5 q6 q7 q8 q9 q10
  have s1 := hX2.b1.cell 0 _ rfl
  have s2 := hX2.b2.cell 0 _ rfl
  have s3 := hX2.bs.b3.cell 0 _ rfl
  have f1 := hX2.b1.frozen 0
  have B1X := hide hX2.b1
  have HX := hide hX2
  have hbX : Hid (Below X.heap.size X X.drew) := hide (Below.refl _ _).drew
  have HMM := hide hmm
  have HML := hide hml
  have HST := hide hst
  have HSMM := hide hsm
  clear h hd hg hc rd rg bX xX hb hX2 hmm hst hsm
  go_enter Tryz.func16, Tryz.ntmps16
  go_wp2_with fail
  go_region_held3 (fun w' => w'.cell? ⟨k1, 0, none⟩ = some (.bool true) ∧ w'.cell? ⟨k2, 0, none⟩ = some (.int .i64 (n : Nat)) ∧ w'.cell? ⟨k3, 0, none⟩ = some (.slice (some ⟨b0, off, none⟩) BY.length cw) ∧ w'.cell? ⟨W1.heap.size, 0, none⟩ = some (.int .i64 o.ds) ∧ w'.cell? ⟨W1.heap.size, 1, none⟩ = some (.int .i64 o.dq) ∧ w'.cell? ⟨W1.heap.size, 2, none⟩ = some (.slice a1 o.deps.length c1) ∧ w'.cell? ⟨W1.heap.size, 3, none⟩ = some (.int .i64 o.kind) ∧ w'.cell? ⟨W1.heap.size, 4, none⟩ = some (.int .i64 o.it) ∧ w'.cell? ⟨W1.heap.size, 5, none⟩ = some (.int .i64 o.is) ∧ w'.cell? ⟨W1.heap.size, 6, none⟩ = some (.int .i64 o.rt) ∧ w'.cell? ⟨W1.heap.size, 7, none⟩ = some (.int .i64 o.rs) ∧ w'.cell? ⟨W1.heap.size, 8, none⟩ = some (.string o.text) ∧ w'.cell? ⟨W1.heap.size, 9, none⟩ = some (.slice a2 o.gone.length c2) ∧ w'.cell? ⟨W1.heap.size, 10, none⟩ = some (.int .i64 o.site) ∧ w'.cell? ⟨b0, off + n * 11, none⟩ = some (.int .i64 o.ds) ∧ w'.cell? ⟨b0, off + n * 11 + 1, none⟩ = some (.int .i64 o.dq) ∧ w'.cell? ⟨b0, off + n * 11 + 2, none⟩ = some (.slice ad o.deps.length cd) ∧ w'.cell? ⟨b0, off + n * 11 + 3, none⟩ = some (.int .i64 o.kind) ∧ w'.cell? ⟨b0, off + n * 11 + 4, none⟩ = some (.int .i64 o.it) ∧ w'.cell? ⟨b0, off + n * 11 + 5, none⟩ = some (.int .i64 o.is) ∧ w'.cell? ⟨b0, off + n * 11 + 6, none⟩ = some (.int .i64 o.rt) ∧ w'.cell? ⟨b0, off + n * 11 + 7, none⟩ = some (.int .i64 o.rs) ∧ w'.cell? ⟨b0, off + n * 11 + 8, none⟩ = some (.string o.text) ∧ w'.cell? ⟨b0, off + n * 11 + 9, none⟩ = some (.slice ag o.gone.length cg) ∧ w'.cell? ⟨b0, off + n * 11 + 10, none⟩ = some (.int .i64 o.site) ∧ w'.frozen? ⟨k1, 0, none⟩ = false ∧ Hid (Below X.heap.size X w'))
    (first
      | (exact ⟨s1, s2, s3, p0, p1, p2, p3, p4, p5, p6, p7, p8, p9, p10, q0, q1, q2, q3, q4, q5, q6, q7, q8, q9, q10, f1, hbX⟩)
      | (go_split_ands
         exact ⟨cell_below (by assumption) hb, cell_below (by assumption) hb, cell_below (by assumption) hb, cell_below (by assumption) hb, cell_below (by assumption) hb, cell_below (by assumption) hb, cell_below (by assumption) hb, cell_below (by assumption) hb, cell_below (by assumption) hb, cell_below (by assumption) hb, cell_below (by assumption) hb, cell_below (by assumption) hb, cell_below (by assumption) hb, cell_below (by assumption) hb, cell_below (by assumption) hb, cell_below (by assumption) hb, cell_below (by assumption) hb, cell_below (by assumption) hb, cell_below (by assumption) hb, cell_below (by assumption) hb, cell_below (by assumption) hb, cell_below (by assumption) hb, cell_below (by assumption) hb, cell_below (by assumption) hb, cell_below (by assumption) hb, (by have hq := ((unhide B1X).below (unhide (by assumption : Hid (Below X.heap.size X _)))).below hb; exact hq.frozen 0), hide (bnext (unhide (by assumption)) hb)⟩)
      | (go_split_ands
         rw [set_same1 ((unhide B1X).below (unhide (by assumption : Hid (Below X.heap.size X _))))]
         exact ⟨by assumption, by assumption, by assumption, by assumption, by assumption, by assumption, by assumption, by assumption, by assumption, by assumption, by assumption, by assumption, by assumption, by assumption, by assumption, by assumption, by assumption, by assumption, by assumption, by assumption, by assumption, by assumption, by assumption, by assumption, by assumption, by assumption, by assumption⟩)
      | go_keep)
    (first
      | (go_split_ands; go_at_call 17; refine (unhide HSm _ (by assumption)).mono ?_; rintro e W3 ⟨rfl, hb⟩))
  have hB3 := bnext (Below.refl X.heap.size X).drew hb
  have b1' := (unhide B1X).below hB3
  rw [set_same1 b1']
  have H3 := hide ((unhide HX).below hB3)
  have t1 := b1'.cell 0 _ rfl
  have t1f := b1'.frozen 0
  have t1l := b1'.lt
  have t2 := (unhide H3).b2.cell 0 _ rfl
  have t2f := (unhide H3).b2.frozen 0
  have t2l := (unhide H3).b2.lt
  have t4 := (unhide H3).b4.cell 0 _ rfl
  have t4l := (unhide H3).b4.lt
  clear b1' hB3 hb HSm s1 s2 s3 p0 p1 p2 p3 p4 p5 p6 p7 p8 p9 p10 q0 q1 q2 q3 q4 q5 q6 q7 q8 q9 q10 f1 hbX HX B1X hX
  by_cases hlt : n < len4
  rotate_left
  · have hlt' : ¬ (n : Int) < (len4 : Int) := by omega
    obtain ⟨W4, hW4⟩ : ∃ V, W3.setCell ⟨k2, 0, none⟩ (.int .i64 ((n : Int) + 1)) = V := ⟨_, rfl⟩
    have H4 := hide ((unhide H3).put2 hW4)
    clear HMM HML HST HSMM
    go_upto_region 5 with fail
    clear t1 t1f t1l t2 t2f t2l t4 t4l H3 hW4 hlt'
    have u1 := (unhide H4).b1.cell 0 _ rfl
    have u1l := (unhide H4).b1.lt
    have u2 := (unhide H4).b2.cell 0 _ rfl
    have u2l := (unhide H4).b2.lt
    have e5 : ((n + 1 : Nat) : Int) = (n : Int) + 1 := by omega
    simp only [List.getElem?_toArray, List.getElem_toArray, List.getElem_cons_zero] at u1 u2
    rw [e5] at u2
    clear e5
    by_cases h0 : n = 0
    rotate_left
    · have h0' : ((n : Int) + 1 == 1) = false := by
        rw [beq_eq_false_iff_ne]
        omega
      go_wp2
      go_ret
      exact ⟨rfl, unhide H4⟩
    subst h0
    obtain ⟨X4, hX4⟩ : ∃ X, W4.alloc (.cells #[.int .i64 0] 3) = X := ⟨_, rfl⟩
    have b4 : Below W4.heap.size W4 X4 := by rw [← hX4]; exact ballc (Below.refl _ _) _
    have x4 : Bx X4 W4.heap.size 3 #[.int .i64 0] := by rw [← hX4]; exact Bx.new W4 _ _
    have hsm := set_same1 x4
    have y0 := x4.cell 0 _ rfl
    have yf := x4.frozen 0
    have yl := x4.lt
    have J0 : JI X4 k1 W4.heap.size 0 X4 := ⟨Kp.refl _ _, fun i t cur hx _ => hx, (unhide H4).b1.below b4, x4⟩
    have hnz : ¬ Z W4.heap.size := fun z => by have := ((unhide H4).zz _ z).1; omega
    have HIn := hide (inner_in ((unhide H4).below b4).bs J0 (fun z => ((unhide H4).zz _ z).2.1 rfl) hnz (by omega) hl)
    have b7 := ((unhide H4).below b4).bs.b7
    have v7 := b7.cell 0 _ rfl
    have v7l := b7.lt
    have hmf := makeF
    unfold itV at v7
    have B4 := hide b4
    clear x4 J0 b7 b4
    go_wp2_with fail
    refine (unhide HIn).mono ?_
    rintro r W6 ⟨rfl, m, j6, hm⟩
    have H6 := hide ((unhide H4).inner (unhide B4) (Nat.le_refl _) j6)
    have z1 := j6.b1.cell 0 _ rfl
    have z1f := j6.b1.frozen 0
    have z1l := j6.b1.lt
    have zn := j6.bn.cell 0 _ rfl
    have znl := j6.bn.lt
    have z3 := (unhide H6).bs.b3.cell 0 _ rfl
    have z3l := (unhide H6).bs.b3.lt
    have z8 := (unhide H6).bs.b8.cell 0 _ rfl
    have z8l := (unhide H6).bs.b8.lt
    have hs6 := set_same1 j6.b1
    clear HIn j6 H4 u1 u1l u2 u2l y0 yf yl v7 v7l hsm hX4
    by_cases hmb : m = BY.length
    · subst hmb
      go_wp2
      go_ret
      exact ⟨rfl, unhide H6⟩
    · have hms : (m : Int) = stop := by
        rcases hm with h | h
        · exact absurd h hmb
        · exact h
      subst hms
      have hmb' : ((m : Int) == (BY.length : Int)) = false := by
        rw [beq_eq_false_iff_ne]
        omega
      go_wp2
      go_ret
      exact ⟨rfl, unhide H6⟩
  have hlt' : (n : Int) < (len4 : Int) := by omega
  obtain ⟨s, hx⟩ : ∃ s, mm[n]? = some s := ⟨_, List.getElem?_eq_getElem (by rw [unhide HML]; exact hlt)⟩
  obtain ⟨P, R, x0, x1, B, H, O, g, _⟩ := (unhide H3).gs
  obtain ⟨xa, xc, ya, yc, hxx⟩ := g.ln.cells
  simp only [Value.agg.injEq, Array.mk.injEq, List.cons.injEq, and_true] at hxx
  obtain ⟨rfl, rfl⟩ := hxx
  obtain ⟨r0, offm, ham, hr0, hcell⟩ := rs_at ((unhide HMM).below g.bel) hx
  subst ham
  have hsw := unhide HST s (List.mem_of_getElem? hx)
  obtain ⟨m3, m1, m2, m4⟩ := unhide HSMM s (List.mem_of_getElem? hx)
  have HSt := hide (fun (V : World) (hV : Below W3.heap.size W3 V) => JO.step_in (unhide H3) _ _ g.bx' (by omega) s hsw m1 m2 m3 m4 hV)
  have d0 := g.bx'.cell 0 _ rfl
  have d1 := g.bx'.cell 1 _ rfl
  have dl := g.bx'.lt
  have t5 := (unhide H3).b5.cell 0 _ rfl
  have t5l := (unhide H3).b5.lt
  obtain ⟨⟨sd, sc, hd⟩, ⟨sg, se, hg⟩, ⟨sv, sf, hv⟩⟩ := hsw.f
  obtain ⟨kind, o', vl, vd, vg, vv⟩ := s
  simp only at hd hg hv
  subst hd hg hv
  unfold stA at HSt
  simp only at HSt
  have g0 := hcell 0 _ rfl
  have g1 := hcell 1 _ rfl
  have g2 := hcell 2 _ rfl
  have g3 := hcell 3 _ rfl
  have g4 := hcell 4 _ rfl
  have g5 := hcell 5 _ rfl
  have g6 := hcell 6 _ rfl
  have g7 := hcell 7 _ rfl
  have g8 := hcell 8 _ rfl
  have g9 := hcell 9 _ rfl
  have g10 := hcell 10 _ rfl
  have g11 := hcell 11 _ rfl
  have g12 := hcell 12 _ rfl
  simp only [Nat.add_zero] at g0 g1 g2 g3 g4 g5 g6 g7 g8 g9 g10 g11 g12
  generalize B.length = LB at *
  generalize O.length = LO at *
  clear hcell hx hsw m1 m2 m3 m4 g HMM HST HSMM
  go_upto_region 3 with fail
  go_cut [34] from 34 to 43 (fun v34 wx => Hid (JO w Z D b k1 k2 k3 k4 k5 k6 k7 k8 nb (.slice (some ⟨b0, off, none⟩) BY.length cw) (.slice (some ⟨r0, offm, none⟩) len4 cap4) v stop BY ops (n + 1) (wx.setCell ⟨k2, 0, none⟩ (.int .i64 ((n : Int) + 1))) ∧ Bx wx k2 3 #[.int .i64 (n : Nat)] ∧ Bx wx k1 4 #[.bool true]))
  case first =>
    go_region_with (go_at_call 11; refine (unhide HSt _ (Below.refl _ _).drew).mono ?_; rintro r V7 ⟨ua, ul, uc, va, vl', vc, rfl, bF, bk, bk1, hk⟩; have g0 := bF.cell 0 _ rfl; have g1 := bF.cell 1 _ rfl; have gf0 := bF.frozen 0; have gf1 := bF.frozen 1; have gl := bF.lt; have e1 := bk1.cell 0 _ rfl; have ef1 := bk1.frozen 0; have el1 := bk1.lt; have hs7 := set_same1 bk1; obtain ⟨F, hF⟩ : ∃ F, ((V7.setCell ⟨k6, 0, none⟩ (.slice ua ul uc)).setCell ⟨k6, 1, none⟩ (.slice va vl' vc)) = F := ⟨_, rfl⟩; rw [hF] at bk; have hsF := set_same1 bk; have h1 := bk.cell 0 _ rfl; have hf1 := bk.frozen 0; have hl1 := bk.lt; clear bF; replace hk := hide (hk F hF); replace bk := hide bk; clear bk1)
    all_goals (
      go_wp2
      go_meet
      obtain ⟨_, _, _, _, _, _, _, _, _, _, _, _, _, _, hj⟩ := unhide hk
      exact hide ⟨(hj n rfl).1, (hj n rfl).2, unhide bk⟩)
  case rest =>
    obtain ⟨hj, c2', c1'⟩ := unhide hcut
    have e1 := c1'.cell 0 _ rfl
    have e1l := c1'.lt
    have e2 := c2'.cell 0 _ rfl
    have e2f := c2'.frozen 0
    have e2l := c2'.lt
    obtain ⟨W4, hW4⟩ : ∃ V, wc.setCell ⟨k2, 0, none⟩ (.int .i64 ((n : Int) + 1)) = V := ⟨_, rfl⟩
    rw [hW4] at hj
    have H4 := hide hj
    clear hcut hj c1' c2' HSt H3 t1 t1f t1l t2 t2f t2l t4 t4l t5 t5l d0 d1 dl g0 g1 g2 g3 g4 g5 g6 g7 g8 g9 g10 g11 g12
    go_upto_region 5 with fail
    clear e1 e1l e2 e2f e2l hW4
    have u1 := (unhide H4).b1.cell 0 _ rfl
    have u1l := (unhide H4).b1.lt
    have u2 := (unhide H4).b2.cell 0 _ rfl
    have u2l := (unhide H4).b2.lt
    have e5 : ((n + 1 : Nat) : Int) = (n : Int) + 1 := by omega
    simp only [List.getElem?_toArray, List.getElem_toArray, List.getElem_cons_zero] at u1 u2
    rw [e5] at u2
    clear e5
    by_cases h0 : n = 0
    rotate_left
    · have h0' : ((n : Int) + 1 == 1) = false := by
        rw [beq_eq_false_iff_ne]
        omega
      go_wp2
      go_ret
      exact ⟨rfl, unhide H4⟩
    subst h0
    obtain ⟨X4, hX4⟩ : ∃ X, W4.alloc (.cells #[.int .i64 0] 3) = X := ⟨_, rfl⟩
    have b4 : Below W4.heap.size W4 X4 := by rw [← hX4]; exact ballc (Below.refl _ _) _
    have x4 : Bx X4 W4.heap.size 3 #[.int .i64 0] := by rw [← hX4]; exact Bx.new W4 _ _
    have hsm := set_same1 x4
    have y0 := x4.cell 0 _ rfl
    have yf := x4.frozen 0
    have yl := x4.lt
    have J0 : JI X4 k1 W4.heap.size 0 X4 := ⟨Kp.refl _ _, fun i t cur hx _ => hx, (unhide H4).b1.below b4, x4⟩
    have hnz : ¬ Z W4.heap.size := fun z => by have := ((unhide H4).zz _ z).1; omega
    have HIn := hide (inner_in ((unhide H4).below b4).bs J0 (fun z => ((unhide H4).zz _ z).2.1 rfl) hnz (by omega) hl)
    have b7 := ((unhide H4).below b4).bs.b7
    have v7 := b7.cell 0 _ rfl
    have v7l := b7.lt
    have hmf := makeF
    unfold itV at v7
    have B4 := hide b4
    clear x4 J0 b7 b4
    go_wp2_with fail
    refine (unhide HIn).mono ?_
    rintro r W6 ⟨rfl, m, j6, hm⟩
    have H6 := hide ((unhide H4).inner (unhide B4) (Nat.le_refl _) j6)
    have z1 := j6.b1.cell 0 _ rfl
    have z1f := j6.b1.frozen 0
    have z1l := j6.b1.lt
    have zn := j6.bn.cell 0 _ rfl
    have znl := j6.bn.lt
    have z3 := (unhide H6).bs.b3.cell 0 _ rfl
    have z3l := (unhide H6).bs.b3.lt
    have z8 := (unhide H6).bs.b8.cell 0 _ rfl
    have z8l := (unhide H6).bs.b8.lt
    have hs6 := set_same1 j6.b1
    clear HIn j6 H4 u1 u1l u2 u2l y0 yf yl v7 v7l hsm hX4
    by_cases hmb : m = BY.length
    · subst hmb
      go_wp2
      go_ret
      exact ⟨rfl, unhide H6⟩
    · have hms : (m : Int) = stop := by
        rcases hm with h | h
        · exact absurd h hmb
        · exact h
      subst hms
      have hmb' : ((m : Int) == (BY.length : Int)) = false := by
        rw [beq_eq_false_iff_ne]
        omega
      go_wp2
      go_ret
      exact ⟨rfl, unhide H6⟩

end Go.Proofs.YtijjoikeceechaaGreat
