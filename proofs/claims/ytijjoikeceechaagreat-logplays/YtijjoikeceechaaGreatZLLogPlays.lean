/-
  Chapter 12's law LogPlays returns true for every base and every script, and leaves its arguments as they were; no condition.
-/
import Derived.Test.YtijjoikeceechaaGreatRows
import Derived.WalkKit
import Derived.ProofKit
import Derived.OpenShut
import Derived.ShutString
import Derived.ChangeOld
import Derived.Below
import Derived.Test.YtijjoikeceechaaGreatZXLR8
import Derived.Test.YtijjoikeceechaaGreatZQ5
import Derived.Deep.RegionHeld3
import Derived.Deep.CutRange
set_option linter.unusedVariables false
set_option linter.unusedSimpArgs false
namespace Go.Proofs.YtijjoikeceechaaGreat
namespace LLogPlays
open Go.ChangeShapes Go.WideShapes Go.ChangeAt Go.RowKit Go.Lib
open Go.ChangeMaps (open_string shut_string)

set_option maxRecDepth 100000 in
set_option maxHeartbeats 16000000 in
theorem walk (a0 : Option Addr) (len0 cap0 : Nat) (bs : List (Int × Int)) (a1 : Option Addr) (len1 cap1 : Nat) (ss : List Stp) (w : World) (w0 : RI w (.slice a0 len0 cap0) bs ∧ bs.length = len0 ∧ len0 ≤ maxLen ∧ ∀ e ∈ bs, idIn e) (w1 : RC w (.slice a1 len1 cap1) ss.length (flat encS ss) ∧ ss.length = len1 ∧ len1 ≤ maxLen ∧ ∀ e ∈ ss, StW w e) :
    Calls Tryz.prog 3 #[.slice a0 len0 cap0, .slice a1 len1 cap1] w fun e W => e = .returned (.bool true) ∧ Below w.heap.size w W := by
  obtain ⟨hr0, rfl, hm0, _⟩ := w0
  obtain ⟨hr1, hl1, hm1, hst⟩ := w1
  unfold maxLen at hm0 hm1
  have HMu := hide (much_in a1 len1 cap1 ss a0 bs.length cap0 w hr1 hl1 (fun s hs => (hst s hs).f) hm1 hm0)
  have HK := hide (fun W => known_in W)
  obtain ⟨MU, hMU⟩ : ∃ m, muchB ss bs.length = m := ⟨_, rfl⟩
  rw [hMU] at HMu
  cases MU with
  | true =>
    clear hMU hr0 hr1 hst
    go_enter Tryz.func3, Tryz.ntmps3
    go_wp2_with fail
    refine (unhide HMu).mono ?_
    rintro r W1 ⟨rfl, hb1⟩
    have B1 := hide hb1
    clear hb1 HMu
    go_wp2_with fail
    refine (unhide HK _).mono ?_
    rintro r W2 ⟨rfl, hb2⟩
    go_wp2
    go_ret
    exact ⟨rfl, bnext (unhide B1) hb2⟩
  | false =>
  have hmu := hMU
  unfold muchB at hmu
  rw [Bool.or_eq_false_iff, Bool.or_eq_false_iff] at hmu
  obtain ⟨hu1, hu2, hu3⟩ := hmu
  have hu1' : ss.length ≤ 200 := by simpa using hu1
  have hu2' : bs.length ≤ 60000 := by simpa using hu2
  have HSM := hide (muL_small ss 0 hu3)
  have HR0 := hide hr0
  have HRS := hide hr1
  have HST := hide hst
  have HL1 := hide hl1
  clear hMU hu1 hu2 hu3 hr0 hr1 hst
  go_enter Tryz.func3, Tryz.ntmps3
  go_wp2_with fail
  refine (unhide HMu).mono ?_
  rintro r W1 ⟨rfl, hb1⟩
  obtain ⟨ma, mc, Wm, gv, cm, W2, hap1, hap2, hm, bm1, bm2⟩ := mark_row W1 a0 cap0 bs ((unhide HR0).below hb1) (by omega)
  have mcap := hm.cap
  have mlo := hm.lo
  have hsl := fun W n => sl_toVt W (some ⟨gv, 0, none⟩) n cm bs.length (by omega)
  have z1 := hb1.size
  have z2 := bm2.size
  have B2 := hide (bnext hb1 bm2)
  have M2 := hide hm
  have HN := hide (New_in _ bs W2 hm.ri (by omega))
  unfold NewA at HN
  have HRN := hide (fun (V : World) (hb : Below W2.heap.size W2 V) => refNew_in _ bs V (((unhide HR0).below (unhide B2)).below hb) (by omega))
  replace hap1 := hide hap1
  replace hap2 := hide hap2
  clear hb1 HMu hm bm1 bm2
  go_upto_region 6 with (at_builtin; first | (have H1 := hap1; clear hap1; refine wpList_append_eq rfl _ _ 23 rfl _ _ _ _ rfl rfl (unhide H1) ?_; clear H1) | (have H2 := hap2; clear hap2; refine wpList_append_eq rfl _ _ 23 rfl _ _ _ _ rfl rfl (unhide H2) ?_; clear H2))
  go_wp2_with fail
  refine (unhide HN).mono ?_
  by_cases hcb : chk bs = 0
  rotate_left
  · have hcb' : (chk bs == 0) = false := by simpa using hcb
    rintro r W3 (⟨_, rfl, hb3⟩ | ⟨h, _⟩)
    rotate_left
    · exact absurd h hcb
    have B3 := hide hb3
    clear hb3
    obtain ⟨ck, hck⟩ : ∃ c, chk bs = c := ⟨_, rfl⟩
    rw [hck] at HRN hcb hcb' ⊢
    clear hck
    have hcb2 : (ck != 0) = true := by simpa using hcb
    have z3 := (unhide B3).size
    have MK3 := hide ((unhide M2).kp (N := fun _ => False) (Kp.of_below (unhide B3)) (fun e => e))
    have HRN3 := hide (unhide HRN W3 (unhide B3))
    clear HN HRN
    go_wp2_with fail
    refine (unhide HRN3).mono ?_
    rintro r W4 (⟨_, rfl, hb4⟩ | ⟨h, _⟩)
    rotate_left
    · exact absurd h hcb
    have z4 := hb4.size
    have B4 := hide (bnext (unhide B3) hb4)
    have C4 := hide hb4
    have MK4 := hide ((unhide MK3).kp (N := fun _ => False) (Kp.of_below hb4) (fun e => e))
    obtain ⟨U, hU⟩ : ∃ U, W4.alloc (.cells #[.slice none 0 0, .slice none 0 0] 35) = U := ⟨_, rfl⟩
    have bU : Below W4.heap.size W4 U := by rw [← hU]; exact ballc (Below.refl _ _) _
    have xU : Bx U W4.heap.size 35 #[.slice none 0 0, .slice none 0 0] := by rw [← hU]; exact Bx.new W4 _ _
    have u0 := xU.cell 0 _ rfl
    have u1 := xU.cell 1 _ rfl
    have uf0 := xU.frozen 0
    have uf1 := xU.frozen 1
    have ul := xU.lt
    obtain ⟨W5, hW5⟩ : ∃ V, ((U.setCell ⟨W4.heap.size, 0, none⟩ (.slice none 0 0)).setCell ⟨W4.heap.size, 1, none⟩ (.slice none 0 0)) = V := ⟨_, rfl⟩
    have k5 : Kp (fun k => k = W4.heap.size) U W5 := by rw [← hW5]; exact kp2 U _ _ _
    have x5 : Bx W5 W4.heap.size 35 #[.slice none 0 0, .slice none 0 0] := by rw [← hW5]; exact box2 xU _ _
    have hb5 : Below W4.heap.size W4 W5 := k5.below bU (fun i e => by omega)
    have B5 := hide (bnext (unhide B4) hb5)
    have C5 := hide (bnext (unhide C4) hb5)
    have MK5 := hide ((unhide MK4).kp (N := fun _ => False) (Kp.of_below hb5) (fun e => e))
    have X5 := hide x5
    have BW5 := hide (bnext (unhide B2) (unhide B5))
    have HVs := hide (vect_in (unhide MK5).ri ((unhide HR0).below (unhide BW5)) (by omega))
    clear HRN3 hb4 bU xU x5 hb5 k5 B4 MK3 MK4
    go_wp2_with fail
    refine (unhide HVs).mono ?_
    rintro r W6 ⟨rfl, hb6⟩
    have B6 := hide (bnext (unhide B5) hb6)
    have C6 := hide (bnext (unhide C5) hb6)
    have MK6 := hide ((unhide MK5).kp (N := fun _ => False) (Kp.of_below hb6) (fun e => e))
    have X6 := hide ((unhide X5).below hb6)
    obtain ⟨m0, m1⟩ := (unhide MK6).md
    have ml := (unhide MK6).lo.2
    have i1 : (bs.length : Int) < (bs.length : Int) + 1 := by omega
    clear HVs hb6 MK5 X5 u0 u1 uf0 uf1 ul hU hW5 
    go_wp2
    clear m0 m1 ml i1
    have XM : Hid (OwX W6 28 2 (.slice (some ⟨gv, 0, none⟩) (bs.length + 1) cm) (bs.length + 1)) := hide (OwX.of (unhide MK6))
    have G9 : Hid (Kp (fun i => i = gv) W6 W6 ∧ SS W6 W6) := hide ⟨Kp.refl _ _, SS.refl _⟩
    obtain ⟨LV, hLV⟩ : ∃ L, bs.length = L := ⟨_, rfl⟩
    rw [hLV] at XM hu2' ⊢
    replace hLV := hide hLV
    go_loopw [10] (fun iv wr => ∃ i : Nat, iv = .int .i64 (i : Nat) ∧ i ≤ LV + 1 ∧ Hid (Kp (fun i => i = gv) W6 wr ∧ SS W6 wr)) (fun iv _ => LV + 1 - (RowKit.intOf iv).toNat)
    case atStart => exact ⟨0, rfl, by omega, G9⟩
    case round =>
      clear G9
      obtain ⟨i, rfl, hi, G9⟩ := hrel
      by_cases hlt : i < LV + 1
      · have hlt' : (i : Int) < (LV : Int) + 1 := by omega
        obtain ⟨g, hge, l0, fz, cc, _⟩ := ((unhide XM).ss (unhide G9).2).at (by omega)
        simp only [Option.some.injEq, Addr.mk.injEq, and_true] at hge
        subst hge
        obtain ⟨y0, d0⟩ := cc (i * 2) (by omega)
        obtain ⟨y1, d1⟩ := cc (i * 2 + 1) (by omega)
        have f0 := fz (i * 2)
        have f1 := fz (i * 2 + 1)
        have G10 : Hid (Kp (fun i => i = gv) W6 ((wr.setCell ⟨gv, i * 2, none⟩ (.int .i64 2)).setCell ⟨gv, i * 2 + 1, none⟩ (.int .i64 99)) ∧ SS W6 ((wr.setCell ⟨gv, i * 2, none⟩ (.int .i64 2)).setCell ⟨gv, i * 2 + 1, none⟩ (.int .i64 99))) :=
          hide ⟨((unhide G9).1.trans (Kp.set (N := fun k => k = gv) _ _ _ rfl) (fun i e => .inl e)).trans (Kp.set (N := fun k => k = gv) _ _ _ rfl) (fun i e => .inl e), ((unhide G9).2.trans (SS.set _ _ _ _)).trans (SS.set _ _ _ _)⟩
        clear G9 fz cc
        go_wp2
        go_roundw
        case rel => exact ⟨i + 1, by go_num, by omega, G10⟩
        case measure => simp [RowKit.intOf]; omega
      · have hlt' : ¬ (i : Int) < (LV : Int) + 1 := by omega
        have BW := hide ((unhide G9).1.below (bnext (unhide B2) (unhide B6)) (fun i e => by omega))
        clear G9 XM
        go_wp2_with fail
        refine (unhide HK _).mono ?_
        rintro r W9 ⟨rfl, hbk⟩
        go_wp2
        go_ret
        exact ⟨rfl, bnext (unhide BW) hbk⟩
  rintro r W3 (⟨h, _⟩ | ⟨_, b, rfl, hll, hb3⟩)
  · exact absurd hcb h
  have B3 := hide hb3
  have L3 := hide hll.lt
  clear hb3 hll
  have z3 := (unhide B3).size
  have MK3 := hide ((unhide M2).kp (N := fun _ => False) (Kp.of_below (unhide B3)) (fun e => e))
  have HRN3 := hide (unhide HRN W3 (unhide B3))
  clear HN HRN
  go_wp2_with fail
  refine (unhide HRN3).mono ?_
  rintro r W4 (⟨h, _⟩ | ⟨_, ar, cr, rfl, or, hb4⟩)
  · exact absurd hcb h
  have z4 := hb4.size
  have B4 := hide (bnext (unhide B3) hb4)
  have C4 := hide hb4
  have MK4 := hide ((unhide MK3).kp (N := fun _ => False) (Kp.of_below hb4) (fun e => e))
  obtain ⟨U, hU⟩ : ∃ U, W4.alloc (.cells #[.slice none 0 0, .slice none 0 0] 35) = U := ⟨_, rfl⟩
  have bU : Below W4.heap.size W4 U := by rw [← hU]; exact ballc (Below.refl _ _) _
  have xU : Bx U W4.heap.size 35 #[.slice none 0 0, .slice none 0 0] := by rw [← hU]; exact Bx.new W4 _ _
  have u0 := xU.cell 0 _ rfl
  have u1 := xU.cell 1 _ rfl
  have uf0 := xU.frozen 0
  have uf1 := xU.frozen 1
  have ul := xU.lt
  obtain ⟨W5, hW5⟩ : ∃ V, ((U.setCell ⟨W4.heap.size, 0, none⟩ (.slice ar bs.length cr)).setCell ⟨W4.heap.size, 1, none⟩ (.slice none 0 0)) = V := ⟨_, rfl⟩
  have k5 : Kp (fun k => k = W4.heap.size) U W5 := by rw [← hW5]; exact kp2 U _ _ _
  have x5 : Bx W5 W4.heap.size 35 #[.slice ar bs.length cr, .slice none 0 0] := by rw [← hW5]; exact box2 xU _ _
  have hb5 : Below W4.heap.size W4 W5 := k5.below bU (fun i e => by omega)
  have B5 := hide (bnext (unhide B4) hb5)
  have C5 := hide (bnext (unhide C4) hb5)
  have MK5 := hide ((unhide MK4).kp (N := fun _ => False) (Kp.of_below hb5) (fun e => e))
  have X5 := hide x5
  have OR := hide (owd_below or hb5)
  have PO : Hid (∀ k, (Value.slice ar bs.length cr).ownBlock = some k → W3.heap.size ≤ k ∧ k < W4.heap.size) := hide (fun k hk => or.lt k hk)
  have BW5 := hide (bnext (unhide B2) (unhide B5))
  have HVs := hide (vect_in (unhide MK5).ri ((unhide HR0).below (unhide BW5)) (by omega))
  clear HRN3 hb4 bU xU x5 hb5 k5 or B4 MK3 MK4
  go_wp2_with fail
  refine (unhide HVs).mono ?_
  rintro r W6 ⟨rfl, hb6⟩
  have B6 := hide (bnext (unhide B5) hb6)
  have C6 := hide (bnext (unhide C5) hb6)
  have MK6 := hide ((unhide MK5).kp (N := fun _ => False) (Kp.of_below hb6) (fun e => e))
  have X6 := hide ((unhide X5).below hb6)
  have OR6 := hide (owd_below (unhide OR) hb6)
  obtain ⟨m0, m1⟩ := (unhide MK6).md
  have ml := (unhide MK6).lo.2
  have i1 : (bs.length : Int) < (bs.length : Int) + 1 := by omega
  clear HVs hb6 MK5 X5 u0 u1 uf0 uf1 ul hU hW5 OR
  go_wp2
  clear m0 m1 ml i1
  have XM : Hid (OwX W6 28 2 (.slice (some ⟨gv, 0, none⟩) (bs.length + 1) cm) (bs.length + 1)) := hide (OwX.of (unhide MK6))
  have G9 : Hid (Kp (fun i => i = gv) W6 W6 ∧ SS W6 W6) := hide ⟨Kp.refl _ _, SS.refl _⟩
  obtain ⟨LV, hLV⟩ : ∃ L, bs.length = L := ⟨_, rfl⟩
  rw [hLV] at XM hu2' ⊢
  replace hLV := hide hLV
  go_loopw [10] (fun iv wr => ∃ i : Nat, iv = .int .i64 (i : Nat) ∧ i ≤ LV + 1 ∧ Hid (Kp (fun i => i = gv) W6 wr ∧ SS W6 wr)) (fun iv _ => LV + 1 - (RowKit.intOf iv).toNat)
  case atStart => exact ⟨0, rfl, by omega, G9⟩
  case round =>
    clear G9
    obtain ⟨i, rfl, hi, G9⟩ := hrel
    by_cases hlt : i < LV + 1
    · have hlt' : (i : Int) < (LV : Int) + 1 := by omega
      obtain ⟨g, hge, l0, fz, cc, _⟩ := ((unhide XM).ss (unhide G9).2).at (by omega)
      simp only [Option.some.injEq, Addr.mk.injEq, and_true] at hge
      subst hge
      obtain ⟨y0, d0⟩ := cc (i * 2) (by omega)
      obtain ⟨y1, d1⟩ := cc (i * 2 + 1) (by omega)
      have f0 := fz (i * 2)
      have f1 := fz (i * 2 + 1)
      have G10 : Hid (Kp (fun i => i = gv) W6 ((wr.setCell ⟨gv, i * 2, none⟩ (.int .i64 2)).setCell ⟨gv, i * 2 + 1, none⟩ (.int .i64 99)) ∧ SS W6 ((wr.setCell ⟨gv, i * 2, none⟩ (.int .i64 2)).setCell ⟨gv, i * 2 + 1, none⟩ (.int .i64 99))) :=
        hide ⟨((unhide G9).1.trans (Kp.set (N := fun k => k = gv) _ _ _ rfl) (fun i e => .inl e)).trans (Kp.set (N := fun k => k = gv) _ _ _ rfl) (fun i e => .inl e), ((unhide G9).2.trans (SS.set _ _ _ _)).trans (SS.set _ _ _ _)⟩
      clear G9 fz cc
      go_wp2
      go_roundw
      case rel => exact ⟨i + 1, by go_num, by omega, G10⟩
      case measure => simp [RowKit.intOf]; omega
    · have hlt' : ¬ (i : Int) < (LV : Int) + 1 := by omega
      have zg := (unhide G9).1.size
      have z6 := (unhide C6).size
      have zw2 := (unhide B2).size
      have gs : GS w wr b W4.heap.size (fun i => W2.heap.size ≤ i ∧ i < W3.heap.size) (fun i => i < w.heap.size ∨ (W3.heap.size ≤ i ∧ i < W4.heap.size)) (.slice ar bs.length cr) (.slice none 0 0) bs bs [] := by
        have kg := (unhide G9).1
        have z4b : W4.heap.size < W6.heap.size := (unhide X6).lt
        exact ⟨((unhide L3).below (unhide C6)).kp kg (fun i e p => by have := p.1; omega), fun i p => ⟨by have := p.1; omega, by have := p.2; omega⟩, kg.below (bnext (unhide B2) (unhide B6)) (fun i e => by omega), ⟨ar, cr, _, rfl, RC.kpn (unhide OR6).row kg (fun i hi e => by have := unhide PO i hi.2; omega), fun k hk => .inr (unhide PO k hk.2), RN.nil _ _⟩, fun i q => ⟨by omega, fun p => by have := p.1; have := p.2; omega⟩, fun i hi => .inl hi, ST.new hcb, (unhide X6).kp kg (by omega), fun p => by have := p.2; omega, fun q => by omega⟩
      have GS0 := hide gs
      have hne : (Value.slice ar bs.length cr) = .slice ar LV cr := by rw [unhide hLV]
      clear gs G9 XM L3 X6 OR6 MK6 B3 B5 B6 C4 C5 C6 PO
      go_wp2
      generalize W4.heap.size = bx at *
      go_loopw [11] (fun iv wr => ∃ (i : Nat) (P R : Nat → Prop) (x0 x1 : Value) (B H : List (Int × Int)) (O : List Opn), iv = .int .i64 (i : Nat) ∧ i ≤ len1 ∧ O.length ≤ i ∧ Hid (GS w wr b bx P R x0 x1 B H O)) (fun iv _ => len1 - (RowKit.intOf iv).toNat)
      case atStart => exact ⟨0, _, _, _, _, _, _, _, rfl, by omega, by simp, GS0⟩
      case round =>
        clear GS0
        obtain ⟨i, P, R, x0, x1, B, H, O, rfl, hi, hO, G0⟩ := hrel
        obtain ⟨xa, xc, ya, yc, hxx⟩ := (unhide G0).ln.cells
        simp only [Value.agg.injEq, Array.mk.injEq, List.cons.injEq, and_true] at hxx
        obtain ⟨rfl, rfl⟩ := hxx
        have c0 := (unhide G0).bx'.cell 0 _ rfl
        have c1 := (unhide G0).bx'.cell 1 _ rfl
        have cl := (unhide G0).bx'.lt
        have hls0 := unhide HL1
        by_cases hlt : i < len1
        · have hlt' : (i : Int) < (len1 : Int) := by omega
          have hls : i < ss.length := by rw [unhide HL1]; exact hlt
          obtain ⟨s, hx⟩ : ∃ s, ss[i]? = some s := ⟨_, List.getElem?_eq_getElem hls⟩
          obtain ⟨b0, off, rfl, hb0, hcell⟩ := rs_at ((unhide HRS).below (unhide G0).bel) hx
          have hsw := unhide HST s (List.mem_of_getElem? hx)
          obtain ⟨m3, m1, m2, m4⟩ := unhide HSM s (List.mem_of_getElem? hx)
          have HSt := hide (fun (V : World) (hb : Below wr.heap.size wr V) => step_in ((unhide G0).below hb).ll ((unhide G0).below hb).pp ((unhide G0).below hb).bel _ ((unhide G0).below hb).ln ((unhide G0).below hb).rr (unhide G0).rw' (unhide G0).st (by omega) s hsw m1 m2 m3 m4)
          have S1 := hide ((unhide G0).st.do s)
          have hO1 := do_len s H O
          generalize doB s B H = B1 at *
          generalize doO s H O = O1 at *
          generalize doH s H = H1 at *
          obtain ⟨⟨ad, cd, hd⟩, ⟨ag, cg, hg⟩, ⟨av, cv, hv⟩⟩ := hsw.f
          obtain ⟨kind, o, vl, vd, vg, vv⟩ := s
          simp only at hd hg hv
          subst hd hg hv
          unfold stA StA at HSt
          simp only at HSt
          have q0 := hcell 0 _ rfl
          have q1 := hcell 1 _ rfl
          have q2 := hcell 2 _ rfl
          have q3 := hcell 3 _ rfl
          have q4 := hcell 4 _ rfl
          have q5 := hcell 5 _ rfl
          have q6 := hcell 6 _ rfl
          have q7 := hcell 7 _ rfl
          have q8 := hcell 8 _ rfl
          have q9 := hcell 9 _ rfl
          have q10 := hcell 10 _ rfl
          have q11 := hcell 11 _ rfl
          have q12 := hcell 12 _ rfl
          simp only [Nat.add_zero] at q0 q1 q2 q3 q4 q5 q6 q7 q8 q9 q10 q11 q12
          clear hcell hx hsw m1 m2 m3 m4
          go_upto_region 19 with fail
          go_region_with (first
            | (go_at_call 11; refine (unhide HSt _ (Below.refl _ _).drew).mono ?_; rintro r W7 ⟨x7, P7, rfl, l7, p7, n7, k7⟩; obtain ⟨xa7, xc7, ya7, yc7, hx7⟩ := n7.cells; subst hx7; obtain ⟨U7, hU7⟩ : ∃ U, W7.alloc (.cells #[.slice none 0 0, .slice none 0 0] 35) = U := ⟨_, rfl⟩; have xU : Bx U7 W7.heap.size 35 #[.slice none 0 0, .slice none 0 0] := (by rw [← hU7]; exact Bx.new W7 _ _); have u0 := xU.cell 0 _ rfl; have u1 := xU.cell 1 _ rfl; have uf0 := xU.frozen 0; have uf1 := xU.frozen 1; have ul := xU.lt; have XU := hide xU; clear xU; replace l7 := hide l7; replace n7 := hide n7; replace p7 := hide p7; replace k7 := hide k7)
            | (go_at_call 11; refine (unhide HSt _ (ballc (Below.refl _ _).drew _)).mono ?_; rintro r W7 ⟨x7, P7, rfl, l7, p7, n7, k7⟩; obtain ⟨xa7, xc7, ya7, yc7, hx7⟩ := n7.cells; subst hx7; have xV : Bx W7 wr.heap.size 35 #[.slice none 0 0, .slice none 0 0] := Bx.kp (Bx.new wr.drew _ _) k7 (fun p => absurd ((unhide G0).pp _ p).2 (Nat.lt_irrefl _)); have e0 := xV.cell 0 _ rfl; have e1 := xV.cell 1 _ rfl; have ef0 := xV.frozen 0; have ef1 := xV.frozen 1; have el := xV.lt; have XV := hide xV; clear xV; replace l7 := hide l7; replace n7 := hide n7; replace p7 := hide p7; replace k7 := hide k7))
          all_goals (first
            | (have hU : Below W7.heap.size W7 U7 := (by rw [← hU7]; exact ballc (Below.refl _ _) _)
               obtain ⟨F, hF⟩ : ∃ V, ((U7.setCell ⟨W7.heap.size, 0, none⟩ (.slice xa7 B1.length xc7)).setCell ⟨W7.heap.size, 1, none⟩ (.slice ya7 O1.length yc7)) = V := ⟨_, rfl⟩
               have t8 : Bx F W7.heap.size 35 #[(.slice xa7 B1.length xc7), (.slice ya7 O1.length yc7)] := (by rw [← hF]; exact box2 (unhide XU) _ _)
               have kF : Kp (fun i => i = W7.heap.size) W7 F := (by rw [← hF]; exact (Kp.of_below hU).trans (kp2 U7 W7.heap.size _ _) (fun i e => .inl e))
               have zw7 : wr.heap.size ≤ W7.heap.size := (unhide k7).size
               have hN : ∀ i, i = W7.heap.size → wr.heap.size ≤ i ∧ ¬ P7 i ∧ (wr.drew.heap.size ≤ i → W7.heap.size ≤ i) := (fun i e => ⟨by omega, fun p => by have := (unhide p7 i p).2; omega, fun _ => by omega⟩)
               clear XU hU
               obtain ⟨gn, bxF⟩ := GS.round (unhide G0) (Below.refl _ _).drew (unhide l7) (unhide p7) (unhide n7) (unhide k7) (unhide S1) kF hN
               have t0 := t8.cell 0 _ rfl
               have t1 := t8.cell 1 _ rfl
               have tl := t8.lt
               have g0 := bxF.cell 0 _ rfl
               have g1 := bxF.cell 1 _ rfl
               have gf0 := bxF.frozen 0
               have gf1 := bxF.frozen 1
               have gl := bxF.lt
               obtain ⟨F2, hF2⟩ : ∃ V, ((F.setCell ⟨bx, 0, none⟩ (.slice xa7 B1.length xc7)).setCell ⟨bx, 1, none⟩ (.slice ya7 O1.length yc7)) = V := ⟨_, rfl⟩
               rw [hF2] at gn
               have HAl := hide (alike_in gn.ll _ gn.ln gn.st (by omega))
               have n0 := gn.bx'.cell 0 _ rfl
               have n1 := gn.bx'.cell 1 _ rfl
               have nl := gn.bx'.lt
               have GN := hide gn
               clear gn bxF t8 kF hN l7 p7 n7 k7 HSt G0
               go_wp2_with fail
               refine (unhide HAl).mono ?_
               rintro r W9 ⟨rfl, hb9⟩
               have G9 := hide ((unhide GN).below hb9)
               clear HAl hb9 GN
               go_wp2
               go_roundw
               case measure => simp [RowKit.intOf]; omega
               case rel => exact ⟨i + 1, _, _, _, _, B1, H1, O1, by go_num, by omega, by omega, G9⟩)
            | (obtain ⟨F, hF⟩ : ∃ V, ((W7.setCell ⟨wr.heap.size, 0, none⟩ (.slice xa7 B1.length xc7)).setCell ⟨wr.heap.size, 1, none⟩ (.slice ya7 O1.length yc7)) = V := ⟨_, rfl⟩
               have t8 : Bx F wr.heap.size 35 #[(.slice xa7 B1.length xc7), (.slice ya7 O1.length yc7)] := (by rw [← hF]; exact box2 (unhide XV) _ _)
               have kF : Kp (fun i => i = wr.heap.size) W7 F := (by rw [← hF]; exact kp2 W7 wr.heap.size _ _)
               have zal : wr.heap.size < (wr.drew.alloc (.cells #[.slice none 0 0, .slice none 0 0] 35)).heap.size := (Bx.new wr.drew 35 #[.slice none 0 0, .slice none 0 0]).lt
               have hN : ∀ i, i = wr.heap.size → wr.heap.size ≤ i ∧ ¬ P7 i ∧ ((wr.drew.alloc (.cells #[.slice none 0 0, .slice none 0 0] 35)).heap.size ≤ i → W7.heap.size ≤ i) := (fun i e => ⟨by omega, fun p => by rcases (unhide p7 i p).1 with p | p; (have := ((unhide G0).pp i p).2; omega); omega, fun h => by omega⟩)
               clear XV
               obtain ⟨gn, bxF⟩ := GS.round (unhide G0) (ballc (Below.refl _ _).drew _) (unhide l7) (unhide p7) (unhide n7) (unhide k7) (unhide S1) kF hN
               have t0 := t8.cell 0 _ rfl
               have t1 := t8.cell 1 _ rfl
               have tl := t8.lt
               have g0 := bxF.cell 0 _ rfl
               have g1 := bxF.cell 1 _ rfl
               have gf0 := bxF.frozen 0
               have gf1 := bxF.frozen 1
               have gl := bxF.lt
               obtain ⟨F2, hF2⟩ : ∃ V, ((F.setCell ⟨bx, 0, none⟩ (.slice xa7 B1.length xc7)).setCell ⟨bx, 1, none⟩ (.slice ya7 O1.length yc7)) = V := ⟨_, rfl⟩
               rw [hF2] at gn
               have HAl := hide (alike_in gn.ll _ gn.ln gn.st (by omega))
               have n0 := gn.bx'.cell 0 _ rfl
               have n1 := gn.bx'.cell 1 _ rfl
               have nl := gn.bx'.lt
               have GN := hide gn
               clear gn bxF t8 kF hN l7 p7 n7 k7 HSt G0
               go_wp2_with fail
               refine (unhide HAl).mono ?_
               rintro r W9 ⟨rfl, hb9⟩
               have G9 := hide ((unhide GN).below hb9)
               clear HAl hb9 GN
               go_wp2
               go_roundw
               case measure => simp [RowKit.intOf]; omega
               case rel => exact ⟨i + 1, _, _, _, _, B1, H1, O1, by go_num, by omega, by omega, G9⟩))
        · have hlt' : ¬ (i : Int) < (len1 : Int) := by omega
          have HAl := hide (allP_in (unhide G0).ll (unhide G0).pp (unhide G0).bel _ (unhide G0).ln (unhide G0).st (by omega))
          have BW := hide (unhide G0).bel
          go_wp2_with fail
          refine (unhide HAl).mono ?_
          rintro r W7 ⟨rfl, hb7⟩
          have B7 := hide (bnext (unhide BW) hb7)
          clear HAl hb7 G0 BW c0 c1
          go_wp2_with fail
          refine (unhide HK _).mono ?_
          rintro r W8 ⟨rfl, hbk⟩
          go_wp2
          go_ret
          exact ⟨rfl, bnext (unhide B7) hbk⟩

theorem own : ownKnob Tryz.prog.godebug = none := by kernel_rfl
theorem laidOut2 : laidOutB Tryz.prog = true := by kernel_rfl

set_option maxRecDepth 100000 in
theorem lifted (os : Os) (started : os.Started) (H : Type) (enc : TypeId × Value → H) :
    ReturnsInHanded {} Tryz.checked os 3 .any (Rows.logPlaysSpec.pre6 enc Tryz.prog Tryz.f3 Rows.logPlaysRow.domain false) (Rows.logPlaysSpec.post enc Tryz.prog Tryz.f3 false true false false) := by
  refine returnsInHanded_of_change (C := Tryz.checked) own started (by kernel_rfl) Tryz.func3
    (ChangeSpec.witness6 (enc := enc) (C := Tryz.checked) false ⟨#[], #[.slice none 0 0, .slice none 0 0], []⟩ 8 (by kernel_rfl) (by kernel_rfl) (by kernel_rfl) (by kernel_rfl)) ?_
  intro W base args ds gs before hval0 hW hcnd _
  have hval : ∀ (j : Nat) t v, Tryz.f3.params[j]? = some t → args[j]? = some v → Value.okWide Tryz.prog W .any base t v := hval0
  have hW' := hW
  obtain ⟨p, q, hA0, hV, rfl, hfz, hnd⟩ := hW
  have hA : DataW.TrodAll enc Tryz.prog W 0 (fun _ => true) true Tryz.f3.params.toList args.toList ds p := hA0
  rw [Tryz.params3] at hA hval
  obtain ⟨v0, vs0, d0, ds0, p0, q0, hargs, rfl, rfl, h0, r0⟩ := trodAll_cons hA
  obtain ⟨v1, vs1, d1, ds1, p1, q1, rfl, rfl, rfl, h1, r1⟩ := trodAll_cons r0
  obtain ⟨rfl, rfl, rfl⟩ := trodAll_nil r1
  obtain rfl : args = #[v0, v1] := by cases args; simp_all
  obtain ⟨rfl, rfl⟩ := trodVars_none hV
  obtain ⟨a0, len0, cap0, rfl⟩ := okWide_slice Tryz.underlying23 (hval 0 23 v0 rfl rfl)
  have k0 := h0
  have lt0 : ∀ x ∈ p0, x.block < W.heap.size := by obtain ⟨m, hm⟩ := k0; exact DataW.trod_lt m _ _ _ hm
  obtain ⟨z0, w0⟩ : ∃ l : List (Int × Int), RI W (.slice a0 len0 cap0) l ∧ l.length = len0 ∧ len0 ≤ maxLen ∧ ∀ e ∈ l, idIn e := by
    obtain ⟨fuel, hf⟩ := h0
    simp only [Value.cells] at hf
    exact open_dots hf
  obtain ⟨a1, len1, cap1, rfl⟩ := okWide_slice Tryz.underlying24 (hval 1 24 v1 rfl rfl)
  have k1 := h1
  have lt1 : ∀ x ∈ p1, x.block < W.heap.size := by obtain ⟨m, hm⟩ := k1; exact DataW.trod_lt m _ _ _ hm
  obtain ⟨z1, w1⟩ : ∃ l : List Stp, RC W (.slice a1 len1 cap1) l.length (flat encS l) ∧ l.length = len1 ∧ len1 ≤ maxLen ∧ ∀ e ∈ l, StW W e := by
    obtain ⟨fuel, hf⟩ := h1
    simp only [Value.cells] at hf
    exact open_steps hf
  clear hA0 hval0
  refine (walk a0 len0 cap0 z0 a1 len1 cap1 z1 W w0 w1).mono fun e W' ⟨he, bel⟩ => ?_
  subst he
  exact ⟨_, rfl, _, _, _, [], _, [], hW', trodAll_mk1 (shut_bool Tryz.underlying4 _), (trodAll_cons_mk (Below.trod laidOut2 (by kernel_rfl) (of_decide_eq_true (by kernel_rfl)) k0 bel lt0) (trodAll_cons_mk (Below.trod laidOut2 (by kernel_rfl) (of_decide_eq_true (by kernel_rfl)) k1 bel lt1) trodAll_mk0)), rfl, bel.frame _, fun h => by cases h⟩

theorem over : Rows.logPlaysRow.holds Tryz.pinned (OpenSpec.ofChange Rows.logPlaysSpec) :=
  OpenClaim.holds_of_wide 3 Tryz.f3 rfl rfl rfl rfl rfl rfl rfl ⟨rfl, rfl, rfl, rfl, rfl⟩ rfl rfl rfl rfl rfl (by kernel_rfl) Tryz.func3 (by kernel_rfl)
    (of_decide_eq_true (by kernel_rfl)) (by unfold Func.isWrapper; first | (rw [if_pos (by decide +kernel)]; kernel_rfl) | (rw [if_neg (by decide +kernel)]; exact ⟨rfl, rfl⟩))
    (fun os started H enc _ => lifted os started H enc)

end LLogPlays

theorem logPlays_holds : Rows.LogPlaysSaid := LLogPlays.over

end Go.Proofs.YtijjoikeceechaaGreat
