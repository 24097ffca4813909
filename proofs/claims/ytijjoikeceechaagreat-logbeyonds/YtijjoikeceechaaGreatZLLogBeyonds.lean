/-
  Chapter 12's law LogBeyonds returns true for every two scripts, every vector and every int, and leaves its arguments as they were; no condition.
-/
import Derived.Test.YtijjoikeceechaaGreatRows
import Derived.WalkKit
import Derived.ProofKit
import Derived.OpenShut
import Derived.ShutString
import Derived.ChangeOld
import Derived.Below
import Derived.Test.YtijjoikeceechaaGreatZLBD
import Derived.Test.YtijjoikeceechaaGreatZQ5
import Derived.Deep.RegionHeld3
import Derived.Deep.CutRange
set_option linter.unusedVariables false
set_option linter.unusedSimpArgs false
namespace Go.Proofs.YtijjoikeceechaaGreat
namespace LLogBeyonds
open Go.ChangeShapes Go.WideShapes Go.ChangeAt Go.RowKit Go.Lib
open Go.ChangeMaps (open_string shut_string)

set_option maxRecDepth 100000 in
set_option maxHeartbeats 16000000 in
theorem walk (a0 : Option Addr) (len0 cap0 : Nat) (ss : List Stp) (a1 : Option Addr) (len1 cap1 : Nat) (lv : List (Int × Int)) (a2 : Option Addr) (len2 cap2 : Nat) (mm : List Stp) (a3 : Int) (w : World) (w0 : RC w (.slice a0 len0 cap0) ss.length (flat encS ss) ∧ ss.length = len0 ∧ len0 ≤ maxLen ∧ ∀ e ∈ ss, StW w e) (w1 : RI w (.slice a1 len1 cap1) lv ∧ lv.length = len1 ∧ len1 ≤ maxLen ∧ ∀ e ∈ lv, idIn e) (w2 : RC w (.slice a2 len2 cap2) mm.length (flat encS mm) ∧ mm.length = len2 ∧ len2 ≤ maxLen ∧ ∀ e ∈ mm, StW w e) (w3 : (Lit.int .i64 a3).wf = true) :
    Calls Tryz.prog 5 #[.slice a0 len0 cap0, .slice a1 len1 cap1, .slice a2 len2 cap2, .int .i64 a3] w fun e W => e = .returned (.bool true) ∧ Below w.heap.size w W := by
  obtain ⟨hr0, hl0, hm0, hst0⟩ := w0
  obtain ⟨hr1, rfl, hm1, _⟩ := w1
  obtain ⟨hr2, hl2, hm2, hst2⟩ := w2
  unfold maxLen at hm0 hm1 hm2
  obtain ⟨M1, hM1⟩ : ∃ X, w.alloc (.cells #[.slice a2 len2 cap2] 24) = X := ⟨_, rfl⟩
  obtain ⟨M2, hM2⟩ : ∃ X, M1.alloc (.cells #[.int .i64 a3] 3) = X := ⟨_, rfl⟩
  have bm1 : Below w.heap.size w M1 := by rw [← hM1]; exact ballc (Below.refl _ _) _
  have bm2 : Below M1.heap.size M1 M2 := by rw [← hM2]; exact ballc (Below.refl _ _) _
  have x4 : Bx M1 w.heap.size 24 #[.slice a2 len2 cap2] := by rw [← hM1]; exact Bx.new w _ _
  have x8 : Bx M2 M1.heap.size 3 #[.int .i64 a3] := by rw [← hM2]; exact Bx.new M1 _ _
  have lk4 := x4.lt
  have lk8 := x8.lt
  have X4 := hide (x4.below bm2)
  have X8 := hide x8
  have BM := hide (bnext bm1 bm2)
  have HM0 := hide (much_in a0 len0 cap0 ss a1 lv.length cap1 M2 (RC.below hr0 (unhide BM)) hl0 (fun s hs => (hst0 s hs).f) hm0 hm1)
  have HM1 := hide (fun (V : World) (hb : Below w.heap.size w V) => much_in a2 len2 cap2 mm none 0 0 V (RC.below hr2 hb) hl2 (fun s hs => (hst2 s hs).f) hm2 (by omega))
  have HK := hide (fun W => known_in W)
  obtain ⟨MU, hMU⟩ : ∃ m, muchB ss lv.length = m := ⟨_, rfl⟩
  obtain ⟨MV, hMV⟩ : ∃ m, muchB mm 0 = m := ⟨_, rfl⟩
  rw [hMU] at HM0
  rw [hMV] at HM1
  clear bm1 bm2 x4 x8
  cases MU with
  | true =>
    clear hMU hMV hr0 hr1 hr2 hst0 hst2
    go_enter Tryz.func5, Tryz.ntmps5
    go_wp2_with fail
    refine (unhide HM0).mono ?_
    rintro r W1 ⟨rfl, hb1⟩
    have B1 := hide (bnext (unhide BM) hb1)
    have c4 := ((unhide X4).below hb1).cell 0 _ rfl
    have c4l := ((unhide X4).below hb1).lt
    have HM2 := hide (unhide HM1 W1 (unhide B1))
    have C1 := hide hb1
    clear hb1 HM0 HM1 hM1 hM2
    clear HM2 c4 c4l
    go_wp2_with fail
    refine (unhide HK _).mono ?_
    rintro r W9 ⟨rfl, hb9⟩
    go_wp2
    go_ret
    exact ⟨rfl, bnext (unhide B1) hb9⟩
  | false =>
  cases MV with
  | true =>
    clear hMU hMV hr0 hr1 hr2 hst0 hst2
    go_enter Tryz.func5, Tryz.ntmps5
    go_wp2_with fail
    refine (unhide HM0).mono ?_
    rintro r W1 ⟨rfl, hb1⟩
    have B1 := hide (bnext (unhide BM) hb1)
    have c4 := ((unhide X4).below hb1).cell 0 _ rfl
    have c4l := ((unhide X4).below hb1).lt
    have HM2 := hide (unhide HM1 W1 (unhide B1))
    have C1 := hide hb1
    clear hb1 HM0 HM1 hM1 hM2
    go_wp2_with fail
    refine (unhide HM2).mono ?_
    rintro r W2 ⟨rfl, hb2⟩
    have B2 := hide (bnext (unhide B1) hb2)
    have C2 := hide (bnext (unhide C1) hb2)
    have d4 := ((unhide X4).below (unhide C2)).cell 0 _ rfl
    have d4l := ((unhide X4).below (unhide C2)).lt
    clear hb2 HM2 B1 C1 c4 c4l
    go_wp2_with fail
    refine (unhide HK _).mono ?_
    rintro r W9 ⟨rfl, hb9⟩
    go_wp2
    go_ret
    exact ⟨rfl, bnext (unhide B2) hb9⟩
  | false =>
  by_cases g40 : 40 < len0
  · have g40' : (40 : Int) < (len0 : Int) := by omega
    clear hMU hMV hr0 hr1 hr2 hst0 hst2
    go_enter Tryz.func5, Tryz.ntmps5
    go_wp2_with fail
    refine (unhide HM0).mono ?_
    rintro r W1 ⟨rfl, hb1⟩
    have B1 := hide (bnext (unhide BM) hb1)
    have c4 := ((unhide X4).below hb1).cell 0 _ rfl
    have c4l := ((unhide X4).below hb1).lt
    have HM2 := hide (unhide HM1 W1 (unhide B1))
    have C1 := hide hb1
    clear hb1 HM0 HM1 hM1 hM2
    go_wp2_with fail
    refine (unhide HM2).mono ?_
    rintro r W2 ⟨rfl, hb2⟩
    have B2 := hide (bnext (unhide B1) hb2)
    have C2 := hide (bnext (unhide C1) hb2)
    have d4 := ((unhide X4).below (unhide C2)).cell 0 _ rfl
    have d4l := ((unhide X4).below (unhide C2)).lt
    clear hb2 HM2 B1 C1 c4 c4l
    go_wp2_with fail
    refine (unhide HK _).mono ?_
    rintro r W9 ⟨rfl, hb9⟩
    go_wp2
    go_ret
    exact ⟨rfl, bnext (unhide B2) hb9⟩
  have g40' : ¬ (40 : Int) < (len0 : Int) := by omega
  by_cases g20 : 20 < len2
  · have g20' : (20 : Int) < (len2 : Int) := by omega
    clear hMU hMV hr0 hr1 hr2 hst0 hst2
    go_enter Tryz.func5, Tryz.ntmps5
    go_wp2_with fail
    refine (unhide HM0).mono ?_
    rintro r W1 ⟨rfl, hb1⟩
    have B1 := hide (bnext (unhide BM) hb1)
    have c4 := ((unhide X4).below hb1).cell 0 _ rfl
    have c4l := ((unhide X4).below hb1).lt
    have HM2 := hide (unhide HM1 W1 (unhide B1))
    have C1 := hide hb1
    clear hb1 HM0 HM1 hM1 hM2
    go_wp2_with fail
    refine (unhide HM2).mono ?_
    rintro r W2 ⟨rfl, hb2⟩
    have B2 := hide (bnext (unhide B1) hb2)
    have C2 := hide (bnext (unhide C1) hb2)
    have d4 := ((unhide X4).below (unhide C2)).cell 0 _ rfl
    have d4l := ((unhide X4).below (unhide C2)).lt
    clear hb2 HM2 B1 C1 c4 c4l
    go_wp2_with fail
    refine (unhide HK _).mono ?_
    rintro r W9 ⟨rfl, hb9⟩
    go_wp2
    go_ret
    exact ⟨rfl, bnext (unhide B2) hb9⟩
  have g20' : ¬ (20 : Int) < (len2 : Int) := by omega
  have hmu := hMU
  unfold muchB at hmu
  rw [Bool.or_eq_false_iff, Bool.or_eq_false_iff] at hmu
  obtain ⟨_, hu2, hu3⟩ := hmu
  have hmv := hMV
  unfold muchB at hmv
  rw [Bool.or_eq_false_iff, Bool.or_eq_false_iff] at hmv
  obtain ⟨_, _, hv3⟩ := hmv
  have hu2' : lv.length ≤ 60000 := by simpa using hu2
  have HSM0 := hide (muL_small ss 0 hu3)
  have HSM2 := hide (muL_small mm 0 hv3)
  have HRS0 := hide hr0
  have HRV := hide hr1
  have HRS2 := hide hr2
  have HST0 := hide hst0
  have HST2 := hide hst2
  have HL0 := hide hl0
  have HL2 := hide hl2
  clear hMU hMV hu2 hu3 hv3 hr0 hr1 hr2 hst0 hst2
  go_enter Tryz.func5, Tryz.ntmps5
  go_wp2_with fail
  refine (unhide HM0).mono ?_
  rintro r W1 ⟨rfl, hb1⟩
  have B1 := hide (bnext (unhide BM) hb1)
  have c4 := ((unhide X4).below hb1).cell 0 _ rfl
  have c4l := ((unhide X4).below hb1).lt
  have HM2 := hide (unhide HM1 W1 (unhide B1))
  have C1 := hide hb1
  clear hb1 HM0 HM1 hM1 hM2
  go_wp2_with fail
  refine (unhide HM2).mono ?_
  rintro r W2 ⟨rfl, hb2⟩
  have B2 := hide (bnext (unhide B1) hb2)
  have C2 := hide (bnext (unhide C1) hb2)
  have d4 := ((unhide X4).below (unhide C2)).cell 0 _ rfl
  have d4l := ((unhide X4).below (unhide C2)).lt
  clear hb2 HM2 B1 C1 c4 c4l
  obtain ⟨A1, hA1⟩ : ∃ X, W2.alloc (.cells #[.slice none 0 0, .slice none 0 0, .slice none 0 0] 51) = X := ⟨_, rfl⟩
  obtain ⟨A2, hA2⟩ : ∃ X, A1.alloc (.cells #[.pointer none] 29) = X := ⟨_, rfl⟩
  have y2 : Bx A2 A1.heap.size 29 #[.pointer none] := by rw [← hA2]; exact Bx.new A1 _ _
  obtain ⟨A3, hA3⟩ : ∃ X, A2.setCell ⟨A1.heap.size, 0, none⟩ (.pointer (some ⟨W2.heap.size, 0, none⟩)) = X := ⟨_, rfl⟩
  obtain ⟨A4, hA4⟩ : ∃ X, A3.alloc (.cells #[.slice none 0 0, .slice none 0 0] 35) = X := ⟨_, rfl⟩
  obtain ⟨A5, hA5⟩ : ∃ X, A4.alloc (.cells #[.bool false] 4) = X := ⟨_, rfl⟩
  have y5 : Bx A5 A4.heap.size 4 #[.bool false] := by rw [← hA5]; exact Bx.new A4 _ _
  obtain ⟨A6, hA6⟩ : ∃ X, A5.setCell ⟨A4.heap.size, 0, none⟩ (.bool true) = X := ⟨_, rfl⟩
  have f20 := y2.cell 0 _ rfl
  have f2f := y2.frozen 0
  have f2l := y2.lt
  have f50 := y5.cell 0 _ rfl
  have f5f := y5.frozen 0
  have f5l := y5.lt
  have J6 : Hid (JL w W2.heap.size A4.heap.size w.heap.size A1.heap.size A3.heap.size M1.heap.size (.slice a2 len2 cap2) a3 0 A6) := by
    have bw := unhide B2
    have q1 : Below W2.heap.size W2 A1 := by rw [← hA1]; exact ballc (Below.refl _ _) _
    have q2 : Below A1.heap.size A1 A2 := by rw [← hA2]; exact ballc (Below.refl _ _) _
    have k3 : Kp (fun i => i = A1.heap.size) A2 A3 := by rw [← hA3]; exact Kp.set _ _ _ rfl
    have q3 : Below A1.heap.size A1 A3 := k3.below q2 (fun i e => by omega)
    have y3 : Bx A3 A1.heap.size 29 #[.pointer (some ⟨W2.heap.size, 0, none⟩)] := by rw [← hA3]; simpa using y2.set 0 (.pointer (some ⟨W2.heap.size, 0, none⟩))
    have q4 : Below A3.heap.size A3 A4 := by rw [← hA4]; exact ballc (Below.refl _ _) _
    have y4 : Bx A4 A3.heap.size 35 #[.slice none 0 0, .slice none 0 0] := by rw [← hA4]; exact Bx.new A3 _ _
    have q5 : Below A4.heap.size A4 A5 := by rw [← hA5]; exact ballc (Below.refl _ _) _
    have k6 : Kp (fun i => i = A4.heap.size) A5 A6 := by rw [← hA6]; exact Kp.set _ _ _ rfl
    have q6 : Below A4.heap.size A4 A6 := k6.below q5 (fun i e => by omega)
    have y6 : Bx A6 A4.heap.size 4 #[.bool true] := by rw [← hA6]; simpa using y5.set 0 (.bool true)
    have lz := LL.zero W2
    rw [hA1] at lz
    have b46 := q6
    have b36 := bnext q4 q6
    have b16 := bnext q3 b36
    have b26 := bnext q1 b16
    have bel := bnext bw b26
    have c26 := bnext (unhide C2) b26
    have s2 := bw.size
    have s1 := q1.size
    have l3 := y3.lt
    have l4 := y4.lt
    have l6 := y6.lt
    have sM := (unhide C2).size
    have lA1 : W2.heap.size < A1.heap.size := by rw [← hA1]; simp
    have l8 := lk8
    refine hide ⟨⟨fun i => W2.heap.size ≤ i ∧ i < A1.heap.size, fun i => i < w.heap.size, _, _, [], [], [], ⟨lz.lt.below b16, fun i p => ⟨by have := p.1; omega, by have := p.2; omega⟩, bel, ⟨none, 0, _, rfl, .inl ⟨rfl, _, _, rfl⟩, fun k hk => absurd rfl hk.1, RN.nil _ _⟩, fun i q => ⟨by omega, fun p => by have := p.1; omega⟩, fun i q => q, ST.new rfl, y4.below b46, fun p => by have := p.2; omega, fun q => by omega⟩, by simp, fun k e => ?_⟩, y6, (unhide X4).below c26, y3.below b36, (unhide X8).below c26⟩
    rcases e with e | e | e | e <;> exact ⟨fun p => by have := p.1; have := p.2; omega, by omega, by omega⟩
  have hd1 : A4.heap.size ≠ w.heap.size ∧ A4.heap.size ≠ A1.heap.size ∧ A4.heap.size ≠ M1.heap.size := by
    have z1 : W2.heap.size < A1.heap.size := by rw [← hA1]; simp
    have z2 : A1.heap.size < A2.heap.size := by rw [← hA2]; simp
    have z3 : A2.heap.size ≤ A3.heap.size := by rw [← hA3]; simp
    have z4 : A3.heap.size < A4.heap.size := by rw [← hA4]; simp
    have z5 := (unhide C2).size
    omega
  clear y2 y5 B2 C2 X8
  generalize hk1 : A4.heap.size = k1 at *
  generalize hk5 : A1.heap.size = k5 at *
  generalize hk6 : A3.heap.size = k6 at *
  generalize hkb : W2.heap.size = b at *
  go_wp2
  clear hA1 hA2 hA3 hA4 hA5 hA6 hk1 hk5 hk6 hkb f20 f2f f2l f50 f5f f5l d4 d4l
  go_loopw [12] (fun iv wr => ∃ i : Nat, iv = .int .i64 (i : Nat) ∧ i ≤ len0 ∧ Hid (JL w b k1 w.heap.size k5 k6 M1.heap.size (.slice a2 len2 cap2) a3 i wr)) (fun iv _ => len0 - (RowKit.intOf iv).toNat)
  case atStart => exact ⟨0, rfl, by omega, J6⟩
  case round =>
    clear J6
    obtain ⟨i, rfl, hi, J0⟩ := hrel
    have e1 := (unhide J0).b1.cell 0 _ rfl
    have e1f := (unhide J0).b1.frozen 0
    have e1l := (unhide J0).b1.lt
    have e5 := (unhide J0).b5.cell 0 _ rfl
    have e5l := (unhide J0).b5.lt
    have hl0' := unhide HL0
    obtain ⟨P, R, x0, x1, B, H, O, g, hO, hkk⟩ := (unhide J0).gs
    obtain ⟨xa, xc, ya, yc, hxx⟩ := g.ln.cells
    simp only [Value.agg.injEq, Array.mk.injEq, List.cons.injEq, and_true] at hxx
    obtain ⟨rfl, rfl⟩ := hxx
    have d0 := g.bx'.cell 0 _ rfl
    have d1 := g.bx'.cell 1 _ rfl
    have dl := g.bx'.lt
    by_cases hlt : i < len0
    · have hlt' : (i : Int) < (len0 : Int) := by omega
      obtain ⟨s, hx⟩ : ∃ s, ss[i]? = some s := ⟨_, List.getElem?_eq_getElem (by rw [unhide HL0]; exact hlt)⟩
      obtain ⟨r0, offm, ham, hr0, hcell⟩ := rs_at ((unhide HRS0).below g.bel) hx
      subst ham
      have hsw := unhide HST0 s (List.mem_of_getElem? hx)
      obtain ⟨m3, m1, m2, m4⟩ := unhide HSM0 s (List.mem_of_getElem? hx)
      have HSt := hide (fun (V : World) (hV : Below wr.heap.size wr V) => JL.step_in (unhide J0) _ _ g.bx' (by omega) s hsw m1 m2 m3 m4 hV)
      obtain ⟨⟨sd, sc, hd⟩, ⟨sg, se, hg⟩, ⟨sv, sf, hv⟩⟩ := hsw.f
      obtain ⟨kind, o', vl, vd, vg, vv⟩ := s
      simp only at hd hg hv
      subst hd hg hv
      unfold stA at HSt
      simp only at HSt
      have g0 := hcell 0 _ rfl
      have g1 := hcell 1 _ rfl
      have g2 := hcell 2 _ rfl
      have g3 := hcell 3 _ rfl
      have g4 := hcell 4 _ rfl
      have g5 := hcell 5 _ rfl
      have g6 := hcell 6 _ rfl
      have g7 := hcell 7 _ rfl
      have g8 := hcell 8 _ rfl
      have g9 := hcell 9 _ rfl
      have g10 := hcell 10 _ rfl
      have g11 := hcell 11 _ rfl
      have g12 := hcell 12 _ rfl
      simp only [Nat.add_zero] at g0 g1 g2 g3 g4 g5 g6 g7 g8 g9 g10 g11 g12
      generalize B.length = LB at *
      generalize O.length = LO at *
      clear hcell hx hsw m1 m2 m3 m4 g hkk
      go_upto_region 9 with fail
      go_region_with (go_at_call 11; refine (unhide HSt _ (Below.refl _ _).drew).mono ?_; rintro r V7 ⟨ua, ul, uc, va, vl', vc, rfl, bF, bk1, hk⟩; have q0 := bF.cell 0 _ rfl; have q1 := bF.cell 1 _ rfl; have qf0 := bF.frozen 0; have qf1 := bF.frozen 1; have ql := bF.lt; have p1 := bk1.cell 0 _ rfl; have pf1 := bk1.frozen 0; have pl1 := bk1.lt; have hs7 := set_same1 bk1; obtain ⟨F, hF⟩ : ∃ F, ((V7.setCell ⟨k6, 0, none⟩ (.slice ua ul uc)).setCell ⟨k6, 1, none⟩ (.slice va vl' vc)) = F := ⟨_, rfl⟩; rw [hF] at hk; have hsF := set_same1 hk.b1; have t1 := hk.b1.cell 0 _ rfl; have tf1 := hk.b1.frozen 0; have tl1 := hk.b1.lt; clear bF bk1; replace hk := hide hk)
      all_goals (
        go_wp2
        go_roundw
        case measure => simp [RowKit.intOf]; omega
        case rel => exact ⟨i + 1, by go_num, by omega, hk⟩)
    · have hlt' : ¬ (i : Int) < (len0 : Int) := by omega
      obtain ⟨BY, hBY⟩ : ∃ x, bynd lv O = x := ⟨_, rfl⟩
      have hbl := bynd_len lv O
      rw [hBY] at hbl
      have hrnO : RN R wr (.slice ya O.length yc) O := by
        obtain ⟨ab, cb, vo, e, _, _, h3⟩ := g.ln
        simp only [Value.agg.injEq, Array.mk.injEq, List.cons.injEq, and_true] at e
        rw [e.2]
        exact h3
      have HB := hide (refBeyond_in xa B.length xc _ _ O lv wr hrnO ((unhide HRV).below g.bel) (by omega) (by omega))
      rw [hBY] at HB
      replace hBY := hide hBY
      have GG := hide g
      clear g hrnO
      go_wp2_with fail
      refine (unhide HB).mono ?_
      rintro r W1 ⟨v1, rfl, hn1, hb1⟩
      obtain ⟨aw, cw, rfl⟩ := rn_form hn1
      have N1 := hide hn1
      have B1 := hide hb1
      obtain ⟨U1, hU1⟩ : ∃ X, W1.alloc (.cells #[.slice none 0 0] 33) = X := ⟨_, rfl⟩
      have u1 : Bx U1 W1.heap.size 33 #[.slice none 0 0] := by rw [← hU1]; exact Bx.new W1 _ _
      obtain ⟨U2, hU2⟩ : ∃ X, U1.setCell ⟨W1.heap.size, 0, none⟩ (.slice aw BY.length cw) = X := ⟨_, rfl⟩
      have bU : Below W1.heap.size W1 U2 := by
        have k : Kp (fun i => i = W1.heap.size) U1 U2 := by rw [← hU2]; exact Kp.set _ _ _ rfl
        have q : Below W1.heap.size W1 U1 := by rw [← hU1]; exact ballc (Below.refl _ _) _
        exact k.below q (fun i e => by omega)
      have u2 : Bx U2 W1.heap.size 33 #[.slice aw BY.length cw] := by rw [← hU2]; simpa using u1.set 0 (.slice aw BY.length cw)
      have f0 := u1.cell 0 _ rfl
      have ff := u1.frozen 0
      have fl := u1.lt
      have BU := hide bU
      have X2 := hide u2
      have b02 := bnext hb1 bU
      have e5' := ((unhide J0).b5.below b02).cell 0 _ rfl
      have e5l' := ((unhide J0).b5.below b02).lt
      have HBe := hide (BeyondF_in ((unhide GG).ll.below b02) (by omega) (.slice a1 lv.length cap1) lv ((unhide HRV).below (bnext (unhide GG).bel b02)) (by omega))
      rw [unhide hBY] at HBe
      clear HB hn1 hb1 u1 u2 bU b02 e1 e1f e1l e5 e5l d0 d1 dl
      go_wp2_with fail
      refine (unhide HBe).mono ?_
      rintro r W3 ⟨rfl, ⟨v, ops, hit, heq, hv⟩, hb3⟩
      have I3 := hide hit
      have B3 := hide hb3
      obtain ⟨V1, hV1⟩ : ∃ X, W3.alloc (.cells #[.nilFunc] 55) = X := ⟨_, rfl⟩
      have v1 : Bx V1 W3.heap.size 55 #[.nilFunc] := by rw [← hV1]; exact Bx.new W3 _ _
      obtain ⟨V2, hV2⟩ : ∃ X, V1.setCell ⟨W3.heap.size, 0, none⟩ (itV U2.heap.size) = X := ⟨_, rfl⟩
      have bV : Below W3.heap.size W3 V2 := by
        have k : Kp (fun i => i = W3.heap.size) V1 V2 := by rw [← hV2]; exact Kp.set _ _ _ rfl
        have q : Below W3.heap.size W3 V1 := by rw [← hV1]; exact ballc (Below.refl _ _) _
        exact k.below q (fun i e => by omega)
      have v2 : Bx V2 W3.heap.size 55 #[itV U2.heap.size] := by rw [← hV2]; simpa using v1.set 0 (itV U2.heap.size)
      have h0 := v1.cell 0 _ rfl
      have hf := v1.frozen 0
      have hl := v1.lt
      obtain ⟨N5, hN5⟩ : ∃ X, V2.alloc (.cells #[.int .i64 0] 3) = X := ⟨_, rfl⟩
      have x5 : Bx N5 V2.heap.size 3 #[.int .i64 0] := by rw [← hN5]; exact Bx.new V2 _ _
      have bN : Below V2.heap.size V2 N5 := by rw [← hN5]; exact ballc (Below.refl _ _) _
      have hs5 := set_same1 x5
      have y0 := x5.cell 0 _ rfl
      have yf := x5.frozen 0
      have yl := x5.lt
      have jo := JO.start (unhide J0) (unhide GG) (by omega) hkk hd1 (unhide B1) (unhide N1) (unhide BU) (unhide X2) hb3 hit heq hv bV v2 bN x5
      have HOu := hide (outer_in mm (unhide HRS2) (unhide HL2) (by omega) (unhide HST2) (unhide HSM2) jo (by omega))
      have i0 := v2.cell 0 _ rfl
      have il := v2.lt
      have i5 := (v2.below bN).cell 0 _ rfl
      have i5l := (v2.below bN).lt
      have hmf := makeF
      have hnil : ∀ (n : Nat) W, (binOp .eql 55 (.func (.func 40) #[] #[.pointer (some ⟨n, 0, none⟩)]) .nilFunc).run Tryz.prog W = .ok (.bool false) W := fun n W => run_eql_func_nil W _ _ _ _ Tryz.underlying55
      unfold itV at hV2 i0 i5 ⊢
      clear HBe hit hb3 v1 v2 x5 bN bV jo I3 N1 X2 GG
      go_wp2_with fail
      refine (unhide HOu).mono ?_
      rintro r W6 ⟨rfl, h6⟩
      obtain ⟨P', R', z0, z1, B', H', O', g6, hO6, _⟩ := h6.gs
      obtain ⟨za, zc, zb, zd, hzz⟩ := g6.ln.cells
      simp only [Value.agg.injEq, Array.mk.injEq, List.cons.injEq, and_true] at hzz
      obtain ⟨rfl, rfl⟩ := hzz
      have s1 := h6.b1.cell 0 _ rfl
      have s2 := h6.b2.cell 0 _ rfl
      have s3 := h6.bs.b3.cell 0 _ rfl
      have s7 := h6.bs.b7.cell 0 _ rfl
      have s5 := h6.b5.cell 0 _ rfl
      have s60 := g6.bx'.cell 0 _ rfl
      have s61 := g6.bx'.cell 1 _ rfl
      unfold itV at s7
      have hl6 : BY.length ≤ 40 := by omega
      have HRe := hide (fun (V : World) (hb : Hid (Below W6.heap.size W6 V)) => Krest_in (W := V) (nb := U2.heap.size) (os := BY) (IT.lt ⟨v, ops, h6.bs.it.below (unhide hb), h6.bs.eq⟩) 201 (by omega))
      have HOp := hide (fun (V : World) (u : Value) (P' : Nat → Prop) (hu : RN P' V u BY) (hb : Hid (Below W6.heap.size W6 V)) => ops2_in u _ BY hu (h6.bs.wn.below (unhide hb)) (by omega))
      have HAl := hide (fun (V : World) (hb : Hid (Below W6.heap.size W6 V)) => allP_in (g6.below (unhide hb)).ll (g6.below (unhide hb)).pp (g6.below (unhide hb)).bel _ (g6.below (unhide hb)).ln g6.st (by omega))
      have BW := hide g6.bel
      unfold itV at HRe
      have hbX : Hid (Below W6.heap.size W6 W6.drew) := hide (Below.refl _ _).drew
      clear h6 g6 HOu hN5 hV1 hV2 hU1 hU2 f0 ff fl e5' e5l' h0 hf hl y0 yf yl i0 il i5 i5l hs5
      go_wp2_with fail
      go_region_held3 (fun w' => w'.cell? ⟨k1, 0, none⟩ = some (.bool true) ∧ w'.cell? ⟨V2.heap.size, 0, none⟩ = some (.int .i64 (BY.length : Nat)) ∧ w'.cell? ⟨W1.heap.size, 0, none⟩ = some (.slice aw BY.length cw) ∧ w'.cell? ⟨W3.heap.size, 0, none⟩ = some (.func (.func 40) #[] #[.pointer (some ⟨U2.heap.size, 0, none⟩)]) ∧ w'.cell? ⟨k5, 0, none⟩ = some (.pointer (some ⟨b, 0, none⟩)) ∧ w'.cell? ⟨k6, 0, none⟩ = some (.slice za B'.length zc) ∧ w'.cell? ⟨k6, 1, none⟩ = some (.slice zb O'.length zd) ∧ Hid (Below W6.heap.size W6 w'))
        (first
          | (exact ⟨s1, s2, s3, s7, s5, s60, s61, hbX⟩)
          | (go_split_ands
             exact ⟨cell_below (by assumption) hb, cell_below (by assumption) hb, cell_below (by assumption) hb, cell_below (by assumption) hb, cell_below (by assumption) hb, cell_below (by assumption) hb, cell_below (by assumption) hb, hide (bnext (unhide (by assumption)) hb)⟩)
          | go_keep)
        (first
          | (go_split_ands; go_at_call 20; refine (unhide HRe _ (by assumption)).mono ?_; rintro e w3 ⟨a3', c3, rfl, r3, hb⟩; have R3 := hide r3.rn; clear r3)
          | (go_split_ands; go_at_call 19; refine (unhide HOp _ _ _ (unhide R3) (by assumption)).mono ?_; rintro e w4 ⟨rfl, hb⟩)
          | (go_split_ands; go_at_call 13; refine (unhide HAl _ (by assumption)).mono ?_; rintro e w5 ⟨rfl, hb⟩)
          | (go_split_ands; go_at_call 7; refine (unhide HK _).mono ?_; rintro e w6 ⟨rfl, hb⟩))
      go_split_ands
      have HBf := hide (bnext (unhide BW) (unhide (by assumption : Hid (Below W6.heap.size W6 _))))
      go_wp2
      go_ret
      exact ⟨rfl, unhide HBf⟩

theorem own : ownKnob Tryz.prog.godebug = none := by kernel_rfl
theorem laidOut2 : laidOutB Tryz.prog = true := by kernel_rfl

set_option maxRecDepth 100000 in
theorem lifted (os : Os) (started : os.Started) (H : Type) (enc : TypeId × Value → H) :
    ReturnsInHanded {} Tryz.checked os 5 .any (Rows.logBeyondsSpec.pre6 enc Tryz.prog Tryz.f5 Rows.logBeyondsRow.domain false) (Rows.logBeyondsSpec.post enc Tryz.prog Tryz.f5 false true false false) := by
  refine returnsInHanded_of_change (C := Tryz.checked) own started (by kernel_rfl) Tryz.func5
    (ChangeSpec.witness6 (enc := enc) (C := Tryz.checked) false ⟨#[], #[.slice none 0 0, .slice none 0 0, .slice none 0 0, .int .i64 0], []⟩ 8 (by kernel_rfl) (by kernel_rfl) (by kernel_rfl) (by kernel_rfl)) ?_
  intro W base args ds gs before hval0 hW hcnd _
  have hval : ∀ (j : Nat) t v, Tryz.f5.params[j]? = some t → args[j]? = some v → Value.okWide Tryz.prog W .any base t v := hval0
  have hW' := hW
  obtain ⟨p, q, hA0, hV, rfl, hfz, hnd⟩ := hW
  have hA : DataW.TrodAll enc Tryz.prog W 0 (fun _ => true) true Tryz.f5.params.toList args.toList ds p := hA0
  rw [Tryz.params5] at hA hval
  obtain ⟨v0, vs0, d0, ds0, p0, q0, hargs, rfl, rfl, h0, r0⟩ := trodAll_cons hA
  obtain ⟨v1, vs1, d1, ds1, p1, q1, rfl, rfl, rfl, h1, r1⟩ := trodAll_cons r0
  obtain ⟨v2, vs2, d2, ds2, p2, q2, rfl, rfl, rfl, h2, r2⟩ := trodAll_cons r1
  obtain ⟨v3, vs3, d3, ds3, p3, q3, rfl, rfl, rfl, h3, r3⟩ := trodAll_cons r2
  obtain ⟨rfl, rfl, rfl⟩ := trodAll_nil r3
  obtain rfl : args = #[v0, v1, v2, v3] := by cases args; simp_all
  obtain ⟨rfl, rfl⟩ := trodVars_none hV
  obtain ⟨a0, len0, cap0, rfl⟩ := okWide_slice Tryz.underlying24 (hval 0 24 v0 rfl rfl)
  have k0 := h0
  have lt0 : ∀ x ∈ p0, x.block < W.heap.size := by obtain ⟨m, hm⟩ := k0; exact DataW.trod_lt m _ _ _ hm
  obtain ⟨z0, w0⟩ : ∃ l : List Stp, RC W (.slice a0 len0 cap0) l.length (flat encS l) ∧ l.length = len0 ∧ len0 ≤ maxLen ∧ ∀ e ∈ l, StW W e := by
    obtain ⟨fuel, hf⟩ := h0
    simp only [Value.cells] at hf
    exact open_steps hf
  obtain ⟨a1, len1, cap1, rfl⟩ := okWide_slice Tryz.underlying23 (hval 1 23 v1 rfl rfl)
  have k1 := h1
  have lt1 : ∀ x ∈ p1, x.block < W.heap.size := by obtain ⟨m, hm⟩ := k1; exact DataW.trod_lt m _ _ _ hm
  obtain ⟨z1, w1⟩ : ∃ l : List (Int × Int), RI W (.slice a1 len1 cap1) l ∧ l.length = len1 ∧ len1 ≤ maxLen ∧ ∀ e ∈ l, idIn e := by
    obtain ⟨fuel, hf⟩ := h1
    simp only [Value.cells] at hf
    exact open_dots hf
  obtain ⟨a2, len2, cap2, rfl⟩ := okWide_slice Tryz.underlying24 (hval 2 24 v2 rfl rfl)
  have k2 := h2
  have lt2 : ∀ x ∈ p2, x.block < W.heap.size := by obtain ⟨m, hm⟩ := k2; exact DataW.trod_lt m _ _ _ hm
  obtain ⟨z2, w2⟩ : ∃ l : List Stp, RC W (.slice a2 len2 cap2) l.length (flat encS l) ∧ l.length = len2 ∧ len2 ≤ maxLen ∧ ∀ e ∈ l, StW W e := by
    obtain ⟨fuel, hf⟩ := h2
    simp only [Value.cells] at hf
    exact open_steps hf
  obtain ⟨a3, rfl, rfl, rfl, w3⟩ := open_int Tryz.underlying3 (hval 3 3 v3 rfl rfl) h3
  clear hA0 hval0
  refine (walk a0 len0 cap0 z0 a1 len1 cap1 z1 a2 len2 cap2 z2 a3 W w0 w1 w2 w3).mono fun e W' ⟨he, bel⟩ => ?_
  subst he
  exact ⟨_, rfl, _, _, _, [], _, [], hW', trodAll_mk1 (shut_bool Tryz.underlying4 _), (trodAll_cons_mk (Below.trod laidOut2 (by kernel_rfl) (of_decide_eq_true (by kernel_rfl)) k0 bel lt0) (trodAll_cons_mk (Below.trod laidOut2 (by kernel_rfl) (of_decide_eq_true (by kernel_rfl)) k1 bel lt1) (trodAll_cons_mk (Below.trod laidOut2 (by kernel_rfl) (of_decide_eq_true (by kernel_rfl)) k2 bel lt2) (trodAll_cons_mk (shut_int Tryz.underlying3 w3) trodAll_mk0)))), rfl, bel.frame _, fun h => by cases h⟩

theorem over : Rows.logBeyondsRow.holds Tryz.pinned (OpenSpec.ofChange Rows.logBeyondsSpec) :=
  OpenClaim.holds_of_wide 5 Tryz.f5 rfl rfl rfl rfl rfl rfl rfl ⟨rfl, rfl, rfl, rfl, rfl⟩ rfl rfl rfl rfl rfl (by kernel_rfl) Tryz.func5 (by kernel_rfl)
    (of_decide_eq_true (by kernel_rfl)) (by unfold Func.isWrapper; first | (rw [if_pos (by decide +kernel)]; kernel_rfl) | (rw [if_neg (by decide +kernel)]; exact ⟨rfl, rfl⟩))
    (fun os started H enc _ => lifted os started H enc)

end LLogBeyonds

theorem logBeyonds_holds : Rows.LogBeyondsSaid := LLogBeyonds.over

end Go.Proofs.YtijjoikeceechaaGreat
