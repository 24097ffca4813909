/-
  Chapter 12's law LogTwo returns true for every two scripts, and leaves its arguments as they were; no condition.
-/
import Derived.Test.YtijjoikeceechaaGreatRows
import Derived.WalkKit
import Derived.ProofKit
import Derived.OpenShut
import Derived.ShutString
import Derived.ChangeOld
import Derived.Below
import Derived.Test.YtijjoikeceechaaGreatZXLR8
import Derived.Test.YtijjoikeceechaaGreatZQ5
import Derived.Deep.RegionHeld3
import Derived.Deep.CutRange
set_option linter.unusedVariables false
set_option linter.unusedSimpArgs false
namespace Go.Proofs.YtijjoikeceechaaGreat
namespace LLogTwo
open Go.ChangeShapes Go.WideShapes Go.ChangeAt Go.RowKit Go.Lib
open Go.ChangeMaps (open_string shut_string)

set_option maxRecDepth 100000 in
set_option maxHeartbeats 16000000 in
theorem walk (a0 : Option Addr) (len0 cap0 : Nat) (ss : List Stp) (a1 : Option Addr) (len1 cap1 : Nat) (tt : List Stp) (w : World) (w0 : RC w (.slice a0 len0 cap0) ss.length (flat encS ss) ∧ ss.length = len0 ∧ len0 ≤ maxLen ∧ ∀ e ∈ ss, StW w e) (w1 : RC w (.slice a1 len1 cap1) tt.length (flat encS tt) ∧ tt.length = len1 ∧ len1 ≤ maxLen ∧ ∀ e ∈ tt, StW w e) :
    Calls Tryz.prog 4 #[.slice a0 len0 cap0, .slice a1 len1 cap1] w fun e W => e = .returned (.bool true) ∧ Below w.heap.size w W := by
  obtain ⟨hr0, hl0, hm0, hst0⟩ := w0
  obtain ⟨hr1, hl1, hm1, hst1⟩ := w1
  unfold maxLen at hm0 hm1
  have HM0 := hide (much_in a0 len0 cap0 ss none 0 0 w hr0 hl0 (fun s hs => (hst0 s hs).f) hm0 (by omega))
  have HM1 := hide (fun (V : World) (hb : Below w.heap.size w V) => much_in a1 len1 cap1 tt none 0 0 V (RC.below hr1 hb) hl1 (fun s hs => (hst1 s hs).f) hm1 (by omega))
  have HK := hide (fun W => known_in W)
  obtain ⟨MU, hMU⟩ : ∃ m, muchB ss 0 = m := ⟨_, rfl⟩
  obtain ⟨MV, hMV⟩ : ∃ m, muchB tt 0 = m := ⟨_, rfl⟩
  rw [hMU] at HM0
  rw [hMV] at HM1
  cases MU with
  | true =>
    clear hMU hMV hr0 hr1 hst0 hst1 HM1
    go_enter Tryz.func4, Tryz.ntmps4
    go_wp2_with fail
    refine (unhide HM0).mono ?_
    rintro r W1 ⟨rfl, hb1⟩
    have B1 := hide hb1
    clear hb1 HM0
    go_wp2_with fail
    refine (unhide HK _).mono ?_
    rintro r W9 ⟨rfl, hb9⟩
    go_wp2
    go_ret
    exact ⟨rfl, bnext (unhide B1) hb9⟩
  | false =>
  cases MV with
  | true =>
    clear hMU hMV hr0 hr1 hst0 hst1
    go_enter Tryz.func4, Tryz.ntmps4
    go_wp2_with fail
    refine (unhide HM0).mono ?_
    rintro r W1 ⟨rfl, hb1⟩
    have HM2 := hide (unhide HM1 W1 hb1)
    have B1 := hide hb1
    clear hb1 HM0 HM1
    go_wp2_with fail
    refine (unhide HM2).mono ?_
    rintro r W2 ⟨rfl, hb2⟩
    have B2 := hide (bnext (unhide B1) hb2)
    clear hb2 HM2 B1
    go_wp2_with fail
    refine (unhide HK _).mono ?_
    rintro r W9 ⟨rfl, hb9⟩
    go_wp2
    go_ret
    exact ⟨rfl, bnext (unhide B2) hb9⟩
  | false =>
  have hmu := hMU
  unfold muchB at hmu
  rw [Bool.or_eq_false_iff, Bool.or_eq_false_iff] at hmu
  obtain ⟨hu1, _, hu3⟩ := hmu
  have hmv := hMV
  unfold muchB at hmv
  rw [Bool.or_eq_false_iff, Bool.or_eq_false_iff] at hmv
  obtain ⟨hv1, _, hv3⟩ := hmv
  have hu1' : ss.length ≤ 200 := by simpa using hu1
  have hv1' : tt.length ≤ 200 := by simpa using hv1
  have HSM0 := hide (muL_small ss 0 hu3)
  have HSM1 := hide (muL_small tt 0 hv3)
  have HRS0 := hide hr0
  have HRS1 := hide hr1
  have HST0 := hide hst0
  have HST1 := hide hst1
  have HL0 := hide hl0
  have HL1 := hide hl1
  clear hMU hMV hu1 hu3 hv1 hv3 hr0 hr1 hst0 hst1
  go_enter Tryz.func4, Tryz.ntmps4
  go_wp2_with fail
  refine (unhide HM0).mono ?_
  rintro r W1 ⟨rfl, hb1⟩
  have HM2 := hide (unhide HM1 W1 hb1)
  have B1 := hide hb1
  clear hb1 HM0 HM1
  go_wp2_with fail
  refine (unhide HM2).mono ?_
  rintro r W2 ⟨rfl, hb2⟩
  have B2 := hide (bnext (unhide B1) hb2)
  have HN := hide (New_in (.slice none 0 0) [] W2 (.inl ⟨rfl, _, _, rfl⟩) (by simp))
  unfold NewA at HN
  clear hb2 HM2 B1
  go_wp2_with fail
  refine (unhide HN).mono ?_
  rintro r W3 (⟨h, _⟩ | ⟨_, b1, rfl, hll, hb3⟩)
  · exact absurd rfl h
  obtain ⟨W4, hW4⟩ : ∃ X, W3.alloc (.cells #[.slice none 0 0, .slice none 0 0, .slice none 0 0] 51) = X := ⟨_, rfl⟩
  obtain ⟨W5, hW5⟩ : ∃ X, W4.alloc (.cells #[.slice none 0 0, .slice none 0 0] 35) = X := ⟨_, rfl⟩
  obtain ⟨W6, hW6⟩ : ∃ X, W5.alloc (.cells #[.slice none 0 0, .slice none 0 0] 35) = X := ⟨_, rfl⟩
  have K6 : Hid (G2 w W6 b1 W4.heap.size [] [] [] W3.heap.size W5.heap.size [] [] []) := by
    have bw := unhide B2
    have b4 : Below W3.heap.size W3 W4 := by rw [← hW4]; exact ballc (Below.refl _ _) _
    have b5 : Below W4.heap.size W4 W5 := by rw [← hW5]; exact ballc (Below.refl _ _) _
    have b6 : Below W5.heap.size W5 W6 := by rw [← hW6]; exact ballc (Below.refl _ _) _
    have x5 : Bx W5 W4.heap.size 35 #[.slice none 0 0, .slice none 0 0] := by rw [← hW5]; exact Bx.new W4 _ _
    have x6 : Bx W6 W5.heap.size 35 #[.slice none 0 0, .slice none 0 0] := by rw [← hW6]; exact Bx.new W5 _ _
    have lz := LL.zero W3
    rw [hW4] at lz
    have s2 := bw.size
    have s3 := hb3.size
    have s4 := b4.size
    have l5 := x5.lt
    have l6 := x6.lt
    have b46 := bnext b5 b6
    have b36 := bnext b4 b46
    have bel := bnext (bnext bw hb3) b36
    have ln : ∀ (R : Nat → Prop), LN R W6 (.agg #[.slice none 0 0, .slice none 0 0]) [] [] := fun R => ⟨none, 0, _, rfl, .inl ⟨rfl, _, _, rfl⟩, fun k hk => absurd rfl hk.1, RN.nil _ _⟩
    have l34 : W3.heap.size < W4.heap.size := by rw [← hW4]; simp
    refine hide ⟨fun i => W2.heap.size ≤ i ∧ i < W3.heap.size, fun i => i < w.heap.size, fun i => W3.heap.size ≤ i ∧ i < W4.heap.size, fun i => i < w.heap.size, _, _, _, _, ⟨hll.lt.below b36, fun i p => ⟨by have := p.1; omega, by have := p.2; omega⟩, bel, ln _, fun i q => ⟨by omega, fun p => by have := p.1; omega⟩, fun i q => q, ST.new rfl, x5.below b6, fun p => by have := p.2; omega, fun q => by omega⟩, ⟨lz.lt.below b46, fun i p => ⟨by have := p.1; omega, by have := p.2; omega⟩, bel, ln _, fun i q => ⟨by omega, fun p => by have := p.1; omega⟩, fun i q => q, ST.new rfl, x6, fun p => by have := p.2; omega, fun q => by omega⟩, ?_⟩
    exact ⟨fun i p q => by have := p.2; have := q.1; omega, fun i p q => by have := p.1; omega, fun i p q => by have := q.1; omega, fun p => by have := p.2; omega, fun q => by omega, fun p => by have := p.2; omega, fun q => by omega, by omega⟩
  generalize hbx1 : W4.heap.size = bx1 at *
  generalize hbx2 : W5.heap.size = bx2 at *
  generalize hb2 : W3.heap.size = b2 at *
  clear hll hb3 HN B2
  go_wp2
  clear hW4 hW5 hW6 hbx1 hbx2 hb2
  go_loopw [10] (fun iv wr => ∃ (i : Nat) (B1 H1 : List (Int × Int)) (O1 : List Opn) (B2 H2 : List (Int × Int)) (O2 : List Opn), iv = .int .i64 (i : Nat) ∧ i ≤ 200 ∧ O1.length ≤ i ∧ O2.length ≤ i ∧ Hid (G2 w wr b1 bx1 B1 H1 O1 b2 bx2 B2 H2 O2)) (fun iv _ => 200 - (RowKit.intOf iv).toNat)
  case atStart => exact ⟨0, _, _, _, _, _, _, rfl, by omega, by simp, by simp, K6⟩
  case round =>
    clear K6
    obtain ⟨i, B1, H1, O1, B2, H2, O2, rfl, hi, hO1, hO2, K0⟩ := hrel
    have e0 := unhide HL0
    have e1 := unhide HL1
    by_cases hlt1 : i < len0
    · by_cases hlt2 : i < len1
      · skip
        have l1' : (i : Int) < (len0 : Int) := by omega
        have l2' : (i : Int) < (len1 : Int) := by omega
        obtain ⟨xa, xc, ya, yc, hbx⟩ := (unhide K0).box
        obtain ⟨s, hx⟩ : ∃ s, ss[i]? = some s := ⟨_, List.getElem?_eq_getElem (by rw [unhide HL0]; exact hlt1)⟩
        obtain ⟨c0, c1, cl⟩ : _ ∧ _ ∧ _ := ⟨hbx.cell 0 _ rfl, hbx.cell 1 _ rfl, hbx.lt⟩
        have hrow := rs_at ((unhide HRS0).below (unhide K0).bel) hx
        obtain ⟨p0, off, hae, hp0, hcell⟩ := hrow
        subst hae
        have hsw := unhide HST0 s (List.mem_of_getElem? hx)
        obtain ⟨m3, m1, m2, m4⟩ := unhide HSM0 s (List.mem_of_getElem? hx)
        have HSt := hide (fun (V : World) (hb : Below wr.heap.size wr V) => G2.step_in (unhide K0) _ _ hbx (by omega) s hsw m1 m2 m3 m4 hb)
        have hO1' := do_len s H1 O1
        generalize doB s B1 H1 = B1' at *
        generalize doO s H1 O1 = O1' at *
        generalize doH s H1 = H1' at *
        obtain ⟨⟨ad, cd, hd⟩, ⟨ag, cg, hg⟩, ⟨av, cv, hv⟩⟩ := hsw.f
        obtain ⟨kind, o, vl, vd, vg, vv⟩ := s
        simp only at hd hg hv
        subst hd hg hv
        unfold stA at HSt
        simp only at HSt
        have q0 := hcell 0 _ rfl
        have q1 := hcell 1 _ rfl
        have q2 := hcell 2 _ rfl
        have q3 := hcell 3 _ rfl
        have q4 := hcell 4 _ rfl
        have q5 := hcell 5 _ rfl
        have q6 := hcell 6 _ rfl
        have q7 := hcell 7 _ rfl
        have q8 := hcell 8 _ rfl
        have q9 := hcell 9 _ rfl
        have q10 := hcell 10 _ rfl
        have q11 := hcell 11 _ rfl
        have q12 := hcell 12 _ rfl
        simp only [Nat.add_zero] at q0 q1 q2 q3 q4 q5 q6 q7 q8 q9 q10 q11 q12
        clear hcell hx hsw m1 m2 m3 m4 hbx
        go_upto_region 15 with fail
        go_region_with (go_at_call 11; refine (unhide HSt _ (Below.refl _ _).drew).mono ?_; rintro r V1 ⟨ua, uc, va, vc, rfl, bF, hk⟩; have g0 := bF.cell 0 _ rfl; have g1 := bF.cell 1 _ rfl; have gf0 := bF.frozen 0; have gf1 := bF.frozen 1; have gl := bF.lt; clear bF; replace hk := hide hk)
        all_goals (
          obtain ⟨F1, hF1⟩ : ∃ V, ((V1.setCell ⟨bx1, 0, none⟩ (.slice ua B1'.length uc)).setCell ⟨bx1, 1, none⟩ (.slice va O1'.length vc)) = V := ⟨_, rfl⟩
          have K1 := hk
          rw [hF1] at K1
          (try simp only [hF1])
          clear hk hF1 HSt g0 g1 gf0 gf1 gl q0 q1 q2 q3 q4 q5 q6 q7 q8 q9 q10 q11 q12 c0 c1 cl K0
          have K1s := hide (unhide K1).swap
          clear K1
          obtain ⟨xa, xc, ya, yc, hbx⟩ := (unhide K1s).box
          obtain ⟨s, hx⟩ : ∃ s, tt[i]? = some s := ⟨_, List.getElem?_eq_getElem (by rw [unhide HL1]; exact hlt2)⟩
          obtain ⟨c0, c1, cl⟩ : _ ∧ _ ∧ _ := ⟨hbx.cell 0 _ rfl, hbx.cell 1 _ rfl, hbx.lt⟩
          have hrow := rs_at ((unhide HRS1).below (unhide K1s).bel) hx
          obtain ⟨p0, off, hae, hp0, hcell⟩ := hrow
          subst hae
          have hsw := unhide HST1 s (List.mem_of_getElem? hx)
          obtain ⟨m3, m1, m2, m4⟩ := unhide HSM1 s (List.mem_of_getElem? hx)
          have HSt := hide (fun (V : World) (hb : Below F1.heap.size F1 V) => G2.step_in (unhide K1s) _ _ hbx (by omega) s hsw m1 m2 m3 m4 hb)
          have hO2' := do_len s H2 O2
          generalize doB s B2 H2 = B2' at *
          generalize doO s H2 O2 = O2' at *
          generalize doH s H2 = H2' at *
          obtain ⟨⟨ad, cd, hd⟩, ⟨ag, cg, hg⟩, ⟨av, cv, hv⟩⟩ := hsw.f
          obtain ⟨kind, o, vl, vd, vg, vv⟩ := s
          simp only at hd hg hv
          subst hd hg hv
          unfold stA at HSt
          simp only at HSt
          have q0 := hcell 0 _ rfl
          have q1 := hcell 1 _ rfl
          have q2 := hcell 2 _ rfl
          have q3 := hcell 3 _ rfl
          have q4 := hcell 4 _ rfl
          have q5 := hcell 5 _ rfl
          have q6 := hcell 6 _ rfl
          have q7 := hcell 7 _ rfl
          have q8 := hcell 8 _ rfl
          have q9 := hcell 9 _ rfl
          have q10 := hcell 10 _ rfl
          have q11 := hcell 11 _ rfl
          have q12 := hcell 12 _ rfl
          simp only [Nat.add_zero] at q0 q1 q2 q3 q4 q5 q6 q7 q8 q9 q10 q11 q12
          clear hcell hx hsw m1 m2 m3 m4 hbx
          go_upto_region 17 with fail
          go_region_with (go_at_call 11; refine (unhide HSt _ (Below.refl _ _).drew).mono ?_; rintro r V2 ⟨ua, uc, va, vc, rfl, bF, hk⟩; have g0 := bF.cell 0 _ rfl; have g1 := bF.cell 1 _ rfl; have gf0 := bF.frozen 0; have gf1 := bF.frozen 1; have gl := bF.lt; clear bF; replace hk := hide hk)
          all_goals (
            obtain ⟨F2, hF2⟩ : ∃ V, ((V2.setCell ⟨bx2, 0, none⟩ (.slice ua B2'.length uc)).setCell ⟨bx2, 1, none⟩ (.slice va O2'.length vc)) = V := ⟨_, rfl⟩
            have K2 := hk
            rw [hF2] at K2
            (try simp only [hF2])
            clear hk hF2 HSt g0 g1 gf0 gf1 gl q0 q1 q2 q3 q4 q5 q6 q7 q8 q9 q10 q11 q12 c0 c1 cl K1s
            have K3 := hide (unhide K2).swap
            clear K2
            obtain ⟨xa, xc, ya, yc, hbx⟩ := (unhide K3).box
            obtain ⟨xb, xd, yb, yd, hby⟩ := (unhide K3).swap.box
            have c0 := hbx.cell 0 _ rfl
            have c1 := hbx.cell 1 _ rfl
            have cl := hbx.lt
            have HA1 := hide (G2.alike_in (unhide K3) _ _ hbx (by omega))
            have HBY := hide hby
            clear hbx hby
            go_wp2_with fail
            refine (unhide HA1).mono ?_
            rintro r X1 ⟨rfl, hbx1⟩
            have KX := hide ((unhide K3).below hbx1)
            have hby := (unhide HBY).below hbx1
            have d0 := hby.cell 0 _ rfl
            have d1 := hby.cell 1 _ rfl
            have dl := hby.lt
            have HA2 := hide (G2.alike_in (unhide KX).swap _ _ hby (by omega))
            clear HA1 hbx1 hby HBY K3 c0 c1 cl
            go_wp2_with fail
            refine (unhide HA2).mono ?_
            rintro r X2 ⟨rfl, hbx2⟩
            have KY := hide ((unhide KX).below hbx2)
            clear HA2 hbx2 KX d0 d1 dl
            go_wp2
            go_roundw
            case measure => simp [RowKit.intOf]; omega
            case rel => exact ⟨i + 1, B1', H1', O1', B2', H2', O2', by go_num, by omega, by omega, by omega, KY⟩))
      · skip
        have l1' : (i : Int) < (len0 : Int) := by omega
        have l2' : ¬ (i : Int) < (len1 : Int) := by omega
        obtain ⟨xa, xc, ya, yc, hbx⟩ := (unhide K0).box
        obtain ⟨s, hx⟩ : ∃ s, ss[i]? = some s := ⟨_, List.getElem?_eq_getElem (by rw [unhide HL0]; exact hlt1)⟩
        obtain ⟨c0, c1, cl⟩ : _ ∧ _ ∧ _ := ⟨hbx.cell 0 _ rfl, hbx.cell 1 _ rfl, hbx.lt⟩
        have hrow := rs_at ((unhide HRS0).below (unhide K0).bel) hx
        obtain ⟨p0, off, hae, hp0, hcell⟩ := hrow
        subst hae
        have hsw := unhide HST0 s (List.mem_of_getElem? hx)
        obtain ⟨m3, m1, m2, m4⟩ := unhide HSM0 s (List.mem_of_getElem? hx)
        have HSt := hide (fun (V : World) (hb : Below wr.heap.size wr V) => G2.step_in (unhide K0) _ _ hbx (by omega) s hsw m1 m2 m3 m4 hb)
        have hO1' := do_len s H1 O1
        generalize doB s B1 H1 = B1' at *
        generalize doO s H1 O1 = O1' at *
        generalize doH s H1 = H1' at *
        obtain ⟨⟨ad, cd, hd⟩, ⟨ag, cg, hg⟩, ⟨av, cv, hv⟩⟩ := hsw.f
        obtain ⟨kind, o, vl, vd, vg, vv⟩ := s
        simp only at hd hg hv
        subst hd hg hv
        unfold stA at HSt
        simp only at HSt
        have q0 := hcell 0 _ rfl
        have q1 := hcell 1 _ rfl
        have q2 := hcell 2 _ rfl
        have q3 := hcell 3 _ rfl
        have q4 := hcell 4 _ rfl
        have q5 := hcell 5 _ rfl
        have q6 := hcell 6 _ rfl
        have q7 := hcell 7 _ rfl
        have q8 := hcell 8 _ rfl
        have q9 := hcell 9 _ rfl
        have q10 := hcell 10 _ rfl
        have q11 := hcell 11 _ rfl
        have q12 := hcell 12 _ rfl
        simp only [Nat.add_zero] at q0 q1 q2 q3 q4 q5 q6 q7 q8 q9 q10 q11 q12
        clear hcell hx hsw m1 m2 m3 m4 hbx
        go_upto_region 15 with fail
        go_region_with (go_at_call 11; refine (unhide HSt _ (Below.refl _ _).drew).mono ?_; rintro r V1 ⟨ua, uc, va, vc, rfl, bF, hk⟩; have g0 := bF.cell 0 _ rfl; have g1 := bF.cell 1 _ rfl; have gf0 := bF.frozen 0; have gf1 := bF.frozen 1; have gl := bF.lt; clear bF; replace hk := hide hk)
        all_goals (
          obtain ⟨F1, hF1⟩ : ∃ V, ((V1.setCell ⟨bx1, 0, none⟩ (.slice ua B1'.length uc)).setCell ⟨bx1, 1, none⟩ (.slice va O1'.length vc)) = V := ⟨_, rfl⟩
          have K1 := hk
          rw [hF1] at K1
          (try simp only [hF1])
          clear hk hF1 HSt g0 g1 gf0 gf1 gl q0 q1 q2 q3 q4 q5 q6 q7 q8 q9 q10 q11 q12 c0 c1 cl K0
          obtain ⟨xa, xc, ya, yc, hbx⟩ := (unhide K1).box
          obtain ⟨xb, xd, yb, yd, hby⟩ := (unhide K1).swap.box
          have c0 := hbx.cell 0 _ rfl
          have c1 := hbx.cell 1 _ rfl
          have cl := hbx.lt
          have HA1 := hide (G2.alike_in (unhide K1) _ _ hbx (by omega))
          have HBY := hide hby
          clear hbx hby
          go_wp2_with fail
          refine (unhide HA1).mono ?_
          rintro r X1 ⟨rfl, hbx1⟩
          have KX := hide ((unhide K1).below hbx1)
          have hby := (unhide HBY).below hbx1
          have d0 := hby.cell 0 _ rfl
          have d1 := hby.cell 1 _ rfl
          have dl := hby.lt
          have HA2 := hide (G2.alike_in (unhide KX).swap _ _ hby (by omega))
          clear HA1 hbx1 hby HBY K1 c0 c1 cl
          go_wp2_with fail
          refine (unhide HA2).mono ?_
          rintro r X2 ⟨rfl, hbx2⟩
          have KY := hide ((unhide KX).below hbx2)
          clear HA2 hbx2 KX d0 d1 dl
          go_wp2
          go_roundw
          case measure => simp [RowKit.intOf]; omega
          case rel => exact ⟨i + 1, B1', H1', O1', B2, H2, O2, by go_num, by omega, by omega, by omega, KY⟩)
    · by_cases hlt2 : i < len1
      · skip
        have l1' : ¬ (i : Int) < (len0 : Int) := by omega
        have l2' : (i : Int) < (len1 : Int) := by omega
        have K0s := hide (unhide K0).swap
        clear K0
        obtain ⟨xa, xc, ya, yc, hbx⟩ := (unhide K0s).box
        obtain ⟨s, hx⟩ : ∃ s, tt[i]? = some s := ⟨_, List.getElem?_eq_getElem (by rw [unhide HL1]; exact hlt2)⟩
        obtain ⟨c0, c1, cl⟩ : _ ∧ _ ∧ _ := ⟨hbx.cell 0 _ rfl, hbx.cell 1 _ rfl, hbx.lt⟩
        have hrow := rs_at ((unhide HRS1).below (unhide K0s).bel) hx
        obtain ⟨p0, off, hae, hp0, hcell⟩ := hrow
        subst hae
        have hsw := unhide HST1 s (List.mem_of_getElem? hx)
        obtain ⟨m3, m1, m2, m4⟩ := unhide HSM1 s (List.mem_of_getElem? hx)
        have HSt := hide (fun (V : World) (hb : Below wr.heap.size wr V) => G2.step_in (unhide K0s) _ _ hbx (by omega) s hsw m1 m2 m3 m4 hb)
        have hO2' := do_len s H2 O2
        generalize doB s B2 H2 = B2' at *
        generalize doO s H2 O2 = O2' at *
        generalize doH s H2 = H2' at *
        obtain ⟨⟨ad, cd, hd⟩, ⟨ag, cg, hg⟩, ⟨av, cv, hv⟩⟩ := hsw.f
        obtain ⟨kind, o, vl, vd, vg, vv⟩ := s
        simp only at hd hg hv
        subst hd hg hv
        unfold stA at HSt
        simp only at HSt
        have q0 := hcell 0 _ rfl
        have q1 := hcell 1 _ rfl
        have q2 := hcell 2 _ rfl
        have q3 := hcell 3 _ rfl
        have q4 := hcell 4 _ rfl
        have q5 := hcell 5 _ rfl
        have q6 := hcell 6 _ rfl
        have q7 := hcell 7 _ rfl
        have q8 := hcell 8 _ rfl
        have q9 := hcell 9 _ rfl
        have q10 := hcell 10 _ rfl
        have q11 := hcell 11 _ rfl
        have q12 := hcell 12 _ rfl
        simp only [Nat.add_zero] at q0 q1 q2 q3 q4 q5 q6 q7 q8 q9 q10 q11 q12
        clear hcell hx hsw m1 m2 m3 m4 hbx
        go_upto_region 17 with fail
        go_region_with (go_at_call 11; refine (unhide HSt _ (Below.refl _ _).drew).mono ?_; rintro r V2 ⟨ua, uc, va, vc, rfl, bF, hk⟩; have g0 := bF.cell 0 _ rfl; have g1 := bF.cell 1 _ rfl; have gf0 := bF.frozen 0; have gf1 := bF.frozen 1; have gl := bF.lt; clear bF; replace hk := hide hk)
        all_goals (
          obtain ⟨F2, hF2⟩ : ∃ V, ((V2.setCell ⟨bx2, 0, none⟩ (.slice ua B2'.length uc)).setCell ⟨bx2, 1, none⟩ (.slice va O2'.length vc)) = V := ⟨_, rfl⟩
          have K2 := hk
          rw [hF2] at K2
          (try simp only [hF2])
          clear hk hF2 HSt g0 g1 gf0 gf1 gl q0 q1 q2 q3 q4 q5 q6 q7 q8 q9 q10 q11 q12 c0 c1 cl K0s
          have K3 := hide (unhide K2).swap
          clear K2
          obtain ⟨xa, xc, ya, yc, hbx⟩ := (unhide K3).box
          obtain ⟨xb, xd, yb, yd, hby⟩ := (unhide K3).swap.box
          have c0 := hbx.cell 0 _ rfl
          have c1 := hbx.cell 1 _ rfl
          have cl := hbx.lt
          have HA1 := hide (G2.alike_in (unhide K3) _ _ hbx (by omega))
          have HBY := hide hby
          clear hbx hby
          go_wp2_with fail
          refine (unhide HA1).mono ?_
          rintro r X1 ⟨rfl, hbx1⟩
          have KX := hide ((unhide K3).below hbx1)
          have hby := (unhide HBY).below hbx1
          have d0 := hby.cell 0 _ rfl
          have d1 := hby.cell 1 _ rfl
          have dl := hby.lt
          have HA2 := hide (G2.alike_in (unhide KX).swap _ _ hby (by omega))
          clear HA1 hbx1 hby HBY K3 c0 c1 cl
          go_wp2_with fail
          refine (unhide HA2).mono ?_
          rintro r X2 ⟨rfl, hbx2⟩
          have KY := hide ((unhide KX).below hbx2)
          clear HA2 hbx2 KX d0 d1 dl
          go_wp2
          go_roundw
          case measure => simp [RowKit.intOf]; omega
          case rel => exact ⟨i + 1, B1, H1, O1, B2', H2', O2', by go_num, by omega, by omega, by omega, KY⟩)
      · skip
        have l1' : ¬ (i : Int) < (len0 : Int) := by omega
        have l2' : ¬ (i : Int) < (len1 : Int) := by omega
        obtain ⟨xa, xc, ya, yc, hbx⟩ := (unhide K0).box
        obtain ⟨xb, xd, yb, yd, hby⟩ := (unhide K0).swap.box
        have c0 := hbx.cell 0 _ rfl
        have c1 := hbx.cell 1 _ rfl
        have cl := hbx.lt
        have HA1 := hide (G2.all_in (unhide K0) _ _ hbx (by omega))
        have HBY := hide hby
        clear hbx hby
        go_wp2_with fail
        refine (unhide HA1).mono ?_
        rintro r X1 ⟨rfl, hbx1⟩
        have KX := hide ((unhide K0).below hbx1)
        have hby := (unhide HBY).below hbx1
        have d0 := hby.cell 0 _ rfl
        have d1 := hby.cell 1 _ rfl
        have dl := hby.lt
        have HA2 := hide (G2.all_in (unhide KX).swap _ _ hby (by omega))
        clear HA1 hbx1 hby HBY K0 c0 c1 cl
        go_wp2_with fail
        refine (unhide HA2).mono ?_
        rintro r X2 ⟨rfl, hbx2⟩
        have BX := hide (bnext (unhide KX).bel hbx2)
        clear HA2 hbx2 KX d0 d1 dl
        go_wp2_with fail
        refine (unhide HK _).mono ?_
        rintro r W9 ⟨rfl, hb9⟩
        go_wp2
        go_ret
        exact ⟨rfl, bnext (unhide BX) hb9⟩

theorem own : ownKnob Tryz.prog.godebug = none := by kernel_rfl
theorem laidOut2 : laidOutB Tryz.prog = true := by kernel_rfl

set_option maxRecDepth 100000 in
theorem lifted (os : Os) (started : os.Started) (H : Type) (enc : TypeId × Value → H) :
    ReturnsInHanded {} Tryz.checked os 4 .any (Rows.logTwoSpec.pre6 enc Tryz.prog Tryz.f4 Rows.logTwoRow.domain false) (Rows.logTwoSpec.post enc Tryz.prog Tryz.f4 false true false false) := by
  refine returnsInHanded_of_change (C := Tryz.checked) own started (by kernel_rfl) Tryz.func4
    (ChangeSpec.witness6 (enc := enc) (C := Tryz.checked) false ⟨#[], #[.slice none 0 0, .slice none 0 0], []⟩ 8 (by kernel_rfl) (by kernel_rfl) (by kernel_rfl) (by kernel_rfl)) ?_
  intro W base args ds gs before hval0 hW hcnd _
  have hval : ∀ (j : Nat) t v, Tryz.f4.params[j]? = some t → args[j]? = some v → Value.okWide Tryz.prog W .any base t v := hval0
  have hW' := hW
  obtain ⟨p, q, hA0, hV, rfl, hfz, hnd⟩ := hW
  have hA : DataW.TrodAll enc Tryz.prog W 0 (fun _ => true) true Tryz.f4.params.toList args.toList ds p := hA0
  rw [Tryz.params4] at hA hval
  obtain ⟨v0, vs0, d0, ds0, p0, q0, hargs, rfl, rfl, h0, r0⟩ := trodAll_cons hA
  obtain ⟨v1, vs1, d1, ds1, p1, q1, rfl, rfl, rfl, h1, r1⟩ := trodAll_cons r0
  obtain ⟨rfl, rfl, rfl⟩ := trodAll_nil r1
  obtain rfl : args = #[v0, v1] := by cases args; simp_all
  obtain ⟨rfl, rfl⟩ := trodVars_none hV
  obtain ⟨a0, len0, cap0, rfl⟩ := okWide_slice Tryz.underlying24 (hval 0 24 v0 rfl rfl)
  have k0 := h0
  have lt0 : ∀ x ∈ p0, x.block < W.heap.size := by obtain ⟨m, hm⟩ := k0; exact DataW.trod_lt m _ _ _ hm
  obtain ⟨z0, w0⟩ : ∃ l : List Stp, RC W (.slice a0 len0 cap0) l.length (flat encS l) ∧ l.length = len0 ∧ len0 ≤ maxLen ∧ ∀ e ∈ l, StW W e := by
    obtain ⟨fuel, hf⟩ := h0
    simp only [Value.cells] at hf
    exact open_steps hf
  obtain ⟨a1, len1, cap1, rfl⟩ := okWide_slice Tryz.underlying24 (hval 1 24 v1 rfl rfl)
  have k1 := h1
  have lt1 : ∀ x ∈ p1, x.block < W.heap.size := by obtain ⟨m, hm⟩ := k1; exact DataW.trod_lt m _ _ _ hm
  obtain ⟨z1, w1⟩ : ∃ l : List Stp, RC W (.slice a1 len1 cap1) l.length (flat encS l) ∧ l.length = len1 ∧ len1 ≤ maxLen ∧ ∀ e ∈ l, StW W e := by
    obtain ⟨fuel, hf⟩ := h1
    simp only [Value.cells] at hf
    exact open_steps hf
  clear hA0 hval0
  refine (walk a0 len0 cap0 z0 a1 len1 cap1 z1 W w0 w1).mono fun e W' ⟨he, bel⟩ => ?_
  subst he
  exact ⟨_, rfl, _, _, _, [], _, [], hW', trodAll_mk1 (shut_bool Tryz.underlying4 _), (trodAll_cons_mk (Below.trod laidOut2 (by kernel_rfl) (of_decide_eq_true (by kernel_rfl)) k0 bel lt0) (trodAll_cons_mk (Below.trod laidOut2 (by kernel_rfl) (of_decide_eq_true (by kernel_rfl)) k1 bel lt1) trodAll_mk0)), rfl, bel.frame _, fun h => by cases h⟩

theorem over : Rows.logTwoRow.holds Tryz.pinned (OpenSpec.ofChange Rows.logTwoSpec) :=
  OpenClaim.holds_of_wide 4 Tryz.f4 rfl rfl rfl rfl rfl rfl rfl ⟨rfl, rfl, rfl, rfl, rfl⟩ rfl rfl rfl rfl rfl (by kernel_rfl) Tryz.func4 (by kernel_rfl)
    (of_decide_eq_true (by kernel_rfl)) (by unfold Func.isWrapper; first | (rw [if_pos (by decide +kernel)]; kernel_rfl) | (rw [if_neg (by decide +kernel)]; exact ⟨rfl, rfl⟩))
    (fun os started H enc _ => lifted os started H enc)

end LLogTwo

theorem logTwo_holds : Rows.LogTwoSaid := LLogTwo.over

end Go.Proofs.YtijjoikeceechaaGreat
