/-
  Chapter 12's law LogOwn returns true for every script and every vector, and leaves its arguments as they were; no condition.
-/
import Derived.Test.YtehmbbnmjiojgaaRows
import Derived.WalkKit
import Derived.ProofKit
import Derived.OpenShut
import Derived.ShutString
import Derived.ChangeOld
import Derived.Below
import Derived.Test.YtehmbbnmjiojgaaZXLO
import Derived.Test.YtehmbbnmjiojgaaZQ5
import Derived.Deep.RegionHeld3
set_option linter.unusedVariables false
set_option linter.unusedSimpArgs false
namespace Go.Proofs.Ytehmbbnmjiojgaa
namespace LLogOwn
open Go.ChangeShapes Go.WideShapes Go.ChangeAt Go.RowKit Go.Lib
open Go.ChangeMaps (open_string shut_string)

set_option maxRecDepth 100000 in
set_option maxHeartbeats 16000000 in
theorem walk (a0 : Option Addr) (len0 cap0 : Nat) (ss : List Stp) (a1 : Option Addr) (len1 cap1 : Nat) (lc : List (Int × Int)) (w : World) (w0 : RC w (.slice a0 len0 cap0) ss.length (flat encS ss) ∧ ss.length = len0 ∧ len0 ≤ maxLen ∧ ∀ e ∈ ss, StW w e) (w1 : RI w (.slice a1 len1 cap1) lc ∧ lc.length = len1 ∧ len1 ≤ maxLen ∧ ∀ e ∈ lc, idIn e) :
    Calls Try.prog 3 #[.slice a0 len0 cap0, .slice a1 len1 cap1] w fun e W => e = .returned (.bool true) ∧ Below w.heap.size w W := by
  obtain ⟨hr1, hl1, hm1, hst⟩ := w0
  obtain ⟨hr2, rfl, hm2, _⟩ := w1
  unfold maxLen at hm1 hm2
  have HMu := hide (much_in a0 len0 cap0 ss a1 lc.length cap1 w hr1 hl1 (fun s hs => (hst s hs).f) hm1 hm2)
  have HK := hide (fun W => known_in W)
  obtain ⟨MU, hMU⟩ : ∃ m, muchB ss lc.length = m := ⟨_, rfl⟩
  rw [hMU] at HMu
  cases MU with
  | true =>
    clear hMU hr1 hr2 hst
    go_enter Try.func3, Try.ntmps3
    go_wp2_with fail
    refine (unhide HMu).mono ?_
    rintro r W1 ⟨rfl, hb1⟩
    have B1 := hide hb1
    clear hb1 HMu
    go_wp2_with fail
    refine (unhide HK _).mono ?_
    rintro r W2 ⟨rfl, hb2⟩
    go_wp2
    go_ret
    exact ⟨rfl, bnext (unhide B1) hb2⟩
  | false =>
  have hmu := hMU
  unfold muchB at hmu
  rw [Bool.or_eq_false_iff, Bool.or_eq_false_iff] at hmu
  obtain ⟨hu1, hu2, hu3⟩ := hmu
  have hu1' : ss.length ≤ 200 := by simpa using hu1
  have hu2' : lc.length ≤ 60000 := by simpa using hu2
  have HSM := hide (muL_small ss 0 hu3)
  have HRA := hide hr2
  have HRS := hide hr1
  have HST := hide hst
  have HL1 := hide hl1
  clear hMU hu1 hu2 hu3 hr1 hr2 hst
  go_enter Try.func3, Try.ntmps3
  go_wp2_with fail
  refine (unhide HMu).mono ?_
  rintro r W1 ⟨rfl, hb1⟩
  obtain ⟨W2, hW2⟩ : ∃ X, W1.alloc (.cells #[.slice none 0 0, .slice none 0 0, .slice none 0 0] 30) = X := ⟨_, rfl⟩
  obtain ⟨W3, hW3⟩ : ∃ X, W2.alloc (.cells #[.slice none 0 0, .slice none 0 0, .slice none 0 0] 30) = X := ⟨_, rfl⟩
  have K3 : Hid (KT (fun _ => False) w W3 W1.heap.size [] [] [] W2.heap.size [] [] []) := by
    have z1 := LL.zero W1
    have z2 := LL.zero W2
    rw [hW2] at z1
    rw [hW3] at z2
    exact hide (KT.new hb1 z1 (by rw [← hW2]; exact ballc (Below.refl _ _) _) z2 (by rw [← hW3]; exact ballc (Below.refl _ _) _))
  have S3 : Hid (ST [] [] []) := hide (ST.new rfl)
  obtain ⟨b, hb⟩ : ∃ b, W1.heap.size = b := ⟨_, rfl⟩
  obtain ⟨m, hm⟩ : ∃ m, W2.heap.size = m := ⟨_, rfl⟩
  rw [hb, hm] at K3
  clear hb1 HMu
  go_wp2
  clear hW2 hW3 hb hm
  go_loopw [7] (fun iv wr => ∃ (i : Nat) (B H : List (Int × Int)) (O : List Opn), iv = .int .i64 (i : Nat) ∧ i ≤ len0 ∧ O.length ≤ i ∧ Hid (KT (fun _ => False) w wr b B H O m B H O) ∧ Hid (ST B H O)) (fun iv _ => len0 - (RowKit.intOf iv).toNat)
  case atStart => exact ⟨0, _, _, _, rfl, by omega, by simp, K3, S3⟩
  case round =>
    obtain ⟨i, B, H, O, rfl, hi, hO, K0, S0⟩ := hrel
    clear K3 S3
    by_cases hlt : i < len0
    · have hlt' : (i : Int) < (len0 : Int) := by omega
      have hls : i < ss.length := by rw [unhide HL1]; exact hlt
      obtain ⟨s, hx⟩ : ∃ s, ss[i]? = some s := ⟨_, List.getElem?_eq_getElem hls⟩
      obtain ⟨b0, off, rfl, hb0, hcell⟩ := rs_at ((unhide HRS).below (unhide K0).bel) hx
      have hcw := (rs_at (unhide HRS) hx)
      obtain ⟨b0', off', hae, hb0', hcell'⟩ := hcw
      simp only [Option.some.injEq, Addr.mk.injEq, and_true] at hae
      obtain ⟨rfl, rfl⟩ := hae
      have hsw := unhide HST s (List.mem_of_getElem? hx)
      obtain ⟨m3, m1, m2, m4⟩ := unhide HSM s (List.mem_of_getElem? hx)
      have HDo := hide (do1_in (unhide K0) (by omega) s hsw m1 m2 m3 m4)
      have HD2 := hide (fun (W : World) (h : KT (fun _ => False) w W m B H O b (doB s B H) (doH s H) (doO s H O)) => do1_in h (by omega) s hsw m1 m2 m3 m4)
      have S1 := hide ((unhide S0).do s)
      have hO1 := do_len s H O
      generalize doB s B H = B1 at *
      generalize doO s H O = O1 at *
      generalize doH s H = H1 at *
      obtain ⟨⟨ad, cd, hd⟩, ⟨ag, cg, hg⟩, ⟨av, cv, hv⟩⟩ := hsw.f
      obtain ⟨kind, o, vl, vd, vg, vv⟩ := s
      simp only at hd hg hv
      subst hd hg hv
      unfold stA at HDo HD2
      simp only at HDo HD2
      have q0 := hcell 0 _ rfl
      have r0 := hcell' 0 _ rfl
      have q1 := hcell 1 _ rfl
      have r1 := hcell' 1 _ rfl
      have q2 := hcell 2 _ rfl
      have r2 := hcell' 2 _ rfl
      have q3 := hcell 3 _ rfl
      have r3 := hcell' 3 _ rfl
      have q4 := hcell 4 _ rfl
      have r4 := hcell' 4 _ rfl
      have q5 := hcell 5 _ rfl
      have r5 := hcell' 5 _ rfl
      have q6 := hcell 6 _ rfl
      have r6 := hcell' 6 _ rfl
      have q7 := hcell 7 _ rfl
      have r7 := hcell' 7 _ rfl
      have q8 := hcell 8 _ rfl
      have r8 := hcell' 8 _ rfl
      have q9 := hcell 9 _ rfl
      have r9 := hcell' 9 _ rfl
      have q10 := hcell 10 _ rfl
      have r10 := hcell' 10 _ rfl
      have q11 := hcell 11 _ rfl
      have r11 := hcell' 11 _ rfl
      have q12 := hcell 12 _ rfl
      have r12 := hcell' 12 _ rfl
      simp only [Nat.add_zero] at q0 q1 q2 q3 q4 q5 q6 q7 q8 q9 q10 q11 q12 r0 r1 r2 r3 r4 r5 r6 r7 r8 r9 r10 r11 r12
      clear hcell hcell' hx hsw m1 m2 m3 m4 S0 K0 HRS HST HSM
      have HRR := hide (And.intro r0 (And.intro r1 (And.intro r2 (And.intro r3 (And.intro r4 (And.intro r5 (And.intro r6 (And.intro r7 (And.intro r8 (And.intro r9 (And.intro r10 (And.intro r11 r12))))))))))))
      clear r0 r1 r2 r3 r4 r5 r6 r7 r8 r9 r10 r11 r12
      go_wp2_with fail
      refine (unhide HDo).mono ?_
      rintro r W1 ⟨rfl, hk1⟩
      have HDm := hide (unhide HD2 W1 hk1.swap)
      obtain ⟨r0, r1, r2, r3, r4, r5, r6, r7, r8, r9, r10, r11, r12⟩ := unhide HRR
      have hbw := hk1.bel
      have t0 := Nat.lt_of_lt_of_le hb0' hbw.size
      replace r0 := cell_below r0 hbw
      replace r1 := cell_below r1 hbw
      replace r2 := cell_below r2 hbw
      replace r3 := cell_below r3 hbw
      replace r4 := cell_below r4 hbw
      replace r5 := cell_below r5 hbw
      replace r6 := cell_below r6 hbw
      replace r7 := cell_below r7 hbw
      replace r8 := cell_below r8 hbw
      replace r9 := cell_below r9 hbw
      replace r10 := cell_below r10 hbw
      replace r11 := cell_below r11 hbw
      replace r12 := cell_below r12 hbw
      clear hk1 HDo HD2 HRR hbw q0 q1 q2 q3 q4 q5 q6 q7 q8 q9 q10 q11 q12
      go_wp2_with fail
      refine (unhide HDm).mono ?_
      rintro r W2 ⟨rfl, hk2⟩
      have K2 := hide hk2.swap
      have lB := ck_len (unhide S1).nb
      have lH := ck_len (unhide S1).nh
      have n1 : O1.length ≤ 1000000 := by omega
      have n2 : (O1.length : Int) < 201 := by have := unhide HL1; omega
      have HBe := hide (KBeyond_in (unhide K2).one n1 none 0 0 [] (.inl ⟨rfl, _, _, rfl⟩) (by simp))
      rw [bynd_nil] at HBe
      clear hk2 HDm r0 r1 r2 r3 r4 r5 r6 r7 r8 r9 r10 r11 r12
      go_wp2_with fail
      refine (unhide HBe).mono ?_
      rintro r W3 ⟨rfl, hit, hb3⟩
      have z3 := hb3.size
      have B3 := hide hb3
      have HRe := hide (Krest_in hit 201 n2)
      unfold itV at HRe ⊢
      clear HBe hit hb3
      go_wp2_with fail
      refine (unhide HRe).mono ?_
      rintro r W4 ⟨ax, cx, rfl, hrl, hb4⟩
      have z4 := hb4.size
      have B4 := hide (bnext (unhide B3) hb4)
      have X4 := hide hrl.lt
      have HBe := hide (KBeyond_in ((unhide K2).one.below (unhide B4)) n1 none 0 0 [] (.inl ⟨rfl, _, _, rfl⟩) (by simp))
      rw [bynd_nil] at HBe
      clear HRe hrl hb4 B3
      go_wp2_with fail
      refine (unhide HBe).mono ?_
      rintro r W5 ⟨rfl, hit, hb5⟩
      have z5 := hb5.size
      have B5 := hide (bnext (unhide B4) hb5)
      have X5 := hide ((unhide X4).below hb5)
      have HRe := hide (Krest_in hit 201 n2)
      unfold itV at HRe ⊢
      clear HBe hit hb5 B4 X4
      go_wp2_with fail
      refine (unhide HRe).mono ?_
      rintro r W6 ⟨ay, cy, rfl, hrl, hb6⟩
      have z6 := hb6.size
      have B6 := hide (bnext (unhide B5) hb6)
      have X6 := hide ((unhide X5).below hb6)
      have Y6 := hide hrl.lt
      have HWi := hide (wipe_in _ O1 (unhide X6) n1)
      clear HRe hrl hb6 B5 X5
      go_wp2_with fail
      refine (unhide HWi).mono ?_
      rintro r W7 ⟨rfl, k7⟩
      have z7 := k7.size
      have B7 := hide (k7.below (unhide B6) (fun i hi => by have := hi.1; omega))
      have Y7 := hide ((unhide Y6).kp k7 (fun i hi h => by have := hi.2; have := h.1; omega))
      have HVe := hide (KVectorQ_in ((unhide K2).one.below (unhide B7)))
      clear HWi k7 B6 X6 Y6
      go_wp2_with fail
      refine (unhide HVe).mono ?_
      rintro r W8 ⟨av, cv, rfl, ov, hb8⟩
      have z8 := hb8.size
      have B8 := hide (bnext (unhide B7) hb8)
      have Y8 := hide ((unhide Y7).below hb8)
      have OV := hide ov
      have HVe2 := hide (KBaseQ_in ((unhide K2).one.below (unhide B8)))
      clear HVe ov hb8 B7 Y7
      go_wp2_with fail
      refine (unhide HVe2).mono ?_
      rintro r W9 ⟨aw, cw, rfl, ow, hb9⟩
      have z9 := hb9.size
      have B9 := hide (bnext (unhide B8) hb9)
      have Y9 := hide ((unhide Y8).below hb9)
      have PV : Hid (∀ k, (Value.slice av H1.length cv).ownBlock = some k → W7.heap.size ≤ k ∧ k < W8.heap.size) := hide (fun k hk => (unhide OV).lt k hk)
      have PW : Hid (∀ k, (Value.slice aw B1.length cw).ownBlock = some k → W8.heap.size ≤ k ∧ k < W9.heap.size) := hide (fun k hk => ow.lt k hk)
      have XV : Hid (OwX W9 33 2 (.slice av H1.length cv) H1.length) := hide (OwX.of (owd_below (unhide OV) hb9))
      have XW : Hid (OwX W9 33 2 (.slice aw B1.length cw) B1.length) := hide (OwX.of ow)
      obtain ⟨LH, hLH⟩ : ∃ L, H1.length = L := ⟨_, rfl⟩
      obtain ⟨LB, hLB⟩ : ∃ L, B1.length = L := ⟨_, rfl⟩
      rw [hLH] at PV XV lH ⊢
      rw [hLB] at PW XW lB ⊢
      replace hLH := hide hLH
      replace hLB := hide hLB
      clear HVe2 ow hb9 B8 Y8 OV
      have G9 := hide (GO.refl W7.heap.size W9)
      go_wp2
      go_loopw [12] (fun kv wr => ∃ k : Nat, kv = .int .i64 (k : Nat) ∧ k ≤ LH ∧ Hid (GO W7.heap.size W9 wr)) (fun kv _ => LH - (RowKit.intOf kv).toNat)
      case atStart => exact ⟨0, rfl, by omega, G9⟩
      case round =>
        clear G9
        obtain ⟨k, rfl, hk, G9⟩ := hrel
        by_cases hkn : k < LH
        · have k1 : (k : Int) < (LH : Int) := by omega
          obtain ⟨g, rfl, l0, fz, cc, _⟩ := ((unhide XV).ss (unhide G9).2).at (by omega)
          obtain ⟨y0, d0⟩ := cc (k * 2) (by omega)
          obtain ⟨y1, d1⟩ := cc (k * 2 + 1) (by omega)
          have f0 := fz (k * 2)
          have f1 := fz (k * 2 + 1)
          have G10 := hide ((unhide G9).set2 (show W7.heap.size ≤ g from (unhide PV g rfl).1) (k * 2) (k * 2 + 1) (.int .i64 9) (.int .i64 9))
          clear G9 fz cc
          go_wp2
          go_roundw
          case rel => exact ⟨k + 1, by go_num, by omega, G10⟩
          case measure => simp [RowKit.intOf]; omega
        · have k1 : ¬ (k : Int) < (LH : Int) := by omega
          go_wp2
          clear k1 hkn hk
          go_loopw [13] (fun kv wr => ∃ k : Nat, kv = .int .i64 (k : Nat) ∧ k ≤ LB ∧ Hid (GO W7.heap.size W9 wr)) (fun kv _ => LB - (RowKit.intOf kv).toNat)
          case atStart => exact ⟨0, rfl, by omega, G9⟩
          case round =>
            clear G9
            obtain ⟨k, rfl, hk, G9⟩ := hrel
            by_cases hkn : k < LB
            · have k1 : (k : Int) < (LB : Int) := by omega
              obtain ⟨g, rfl, l0, fz, cc, _⟩ := ((unhide XW).ss (unhide G9).2).at (by omega)
              obtain ⟨y0, d0⟩ := cc (k * 2) (by omega)
              obtain ⟨y1, d1⟩ := cc (k * 2 + 1) (by omega)
              have f0 := fz (k * 2)
              have f1 := fz (k * 2 + 1)
              have G10 := hide ((unhide G9).set2 (show W7.heap.size ≤ g by have := (unhide PW g rfl).1; omega) (k * 2) (k * 2 + 1) (.int .i64 8) (.int .i64 8))
              clear G9 fz cc
              go_wp2
              go_roundw
              case rel => exact ⟨k + 1, by go_num, by omega, G10⟩
              case measure => simp [RowKit.intOf]; omega
            · have k1 : ¬ (k : Int) < (LB : Int) := by omega
              obtain ⟨X1, hX1⟩ : ∃ X, wr.alloc (.cells #[.int .i64 7, .int .i64 0] 33) = X := ⟨_, rfl⟩
              obtain ⟨gv, cv', W10, hrv, G10, _, q0, ov, kv⟩ := app_dot (unhide G9) av cv LH ((unhide XV).ss (unhide G9).2) (fun k hk => (unhide PV k hk).1) (by omega) 7 0 X1 hX1
              obtain ⟨X2, hX2⟩ : ∃ X, W10.alloc (.cells #[.int .i64 6, .int .i64 0] 33) = X := ⟨_, rfl⟩
              obtain ⟨gw, cw', W11, hrw, G11, xw, p0, ow, kw⟩ := app_dot G10 aw cw LB ((unhide XW).ss G10.2) (fun k hk => by have := (unhide PW k hk).1; omega) (by omega) 6 0 X2 hX2
              have zG := (unhide G9).1.size
              have q1 := cell_kp q0 kw (fun e => by
                have := unhide PW gv e
                rcases ov with h | h
                · have := unhide PV gv h; omega
                · omega)
              have B11 := hide (G11.1.below (unhide B9) (fun i hi => by have : W7.heap.size ≤ i := hi; omega))
              have Y11 := hide ((unhide Y9).kp G11.1 (fun i hi h => by have : W7.heap.size ≤ i := hi; have := h.2; omega))
              have lv := World.block_lt_of_cell? _ _ q1
              have lw := World.block_lt_of_cell? _ _ p0
              simp only at lv lw
              replace hrv := hide hrv
              replace hrw := hide hrw
              have HBe := hide (KBeyond_in ((unhide K2).below (unhide B11)).swap.one n1 none 0 0 [] (.inl ⟨rfl, _, _, rfl⟩) (by simp))
              rw [bynd_nil] at HBe
              clear G9 G10 G11 q0 ov kv ow kw xw B9 Y9 XV XW PV PW zG
              go_wp2_with (at_builtin; first | (refine wpList_append_eq rfl _ _ 24 rfl _ _ _ _ rfl rfl (unhide hrv) ?_; clear hrv) | (refine wpList_append_eq rfl _ _ 24 rfl _ _ _ _ rfl rfl (unhide hrw) ?_; clear hrw))
              refine (unhide HBe).mono ?_
              rintro r W12 ⟨rfl, hit, hb12⟩
              have B12 := hide (bnext (unhide B11) hb12)
              have Y12 := hide ((unhide Y11).below hb12)
              have HRe := hide (Krest_in hit 201 n2)
              unfold itV at HRe ⊢
              clear HBe hit hb12 B11 Y11
              go_wp2_with fail
              refine (unhide HRe).mono ?_
              rintro r W13 ⟨az, cz, rfl, hrl, hb13⟩
              have B13 := hide (bnext (unhide B12) hb13)
              have HOp := hide (ops_in _ _ O1 ((unhide Y12).below hb13) hrl n1)
              clear HRe hrl hb13 B12 Y12
              go_wp2_with fail
              refine (unhide HOp).mono ?_
              rintro r W14 ⟨rfl, hb14⟩
              have B14 := hide (bnext (unhide B13) hb14)
              have HV1 := hide (KVector_in ((unhide K2).one.below (unhide B14)))
              clear HOp hb14 B13
              go_wp2_with fail
              refine (unhide HV1).mono ?_
              rintro r W15 ⟨e1, e2, rfl, rv1, hb15⟩
              have B15 := hide (bnext (unhide B14) hb15)
              replace rv1 := hide rv1
              have HV2 := hide (KVector_in ((unhide K2).swap.one.below (unhide B15)))
              clear HV1 hb15 B14
              go_wp2_with fail
              refine (unhide HV2).mono ?_
              rintro r W16 ⟨e3, e4, rfl, rv2, hb16⟩
              have B16 := hide (bnext (unhide B15) hb16)
              have HVs := hide (vectors_in H1 H1 _ _ W16 ((unhide rv1).below hb16) rv2 (by rw [unhide hLH]; omega) (by rw [unhide hLH]; omega))
              rw [decide_eq_true rfl] at HVs
              clear HV2 hb16 B15 rv1 rv2
              go_wp2_with fail
              refine (unhide HVs).mono ?_
              rintro r W17 ⟨rfl, nd17, hW⟩
              have B17 := hide (bnext (unhide B16) (show Below W16.heap.size W16 W17 by rw [hW]; exact bdrew (Below.refl _ _) _))
              have HV1 := hide (KBase_in ((unhide K2).one.below (unhide B17)))
              clear HVs hW B16
              go_wp2_with fail
              refine (unhide HV1).mono ?_
              rintro r W18 ⟨e5, e6, rfl, rv1, hb18⟩
              have B18 := hide (bnext (unhide B17) hb18)
              replace rv1 := hide rv1
              have HV2 := hide (KBase_in ((unhide K2).swap.one.below (unhide B18)))
              clear HV1 hb18 B17
              go_wp2_with fail
              refine (unhide HV2).mono ?_
              rintro r W19 ⟨e7, e8, rfl, rv2, hb19⟩
              have B19 := hide (bnext (unhide B18) hb19)
              have HVs := hide (vectors_in B1 B1 _ _ W19 ((unhide rv1).below hb19) rv2 (by rw [unhide hLB]; omega) (by rw [unhide hLB]; omega))
              rw [decide_eq_true rfl] at HVs
              clear HV2 hb19 B18 rv1 rv2
              go_wp2_with fail
              refine (unhide HVs).mono ?_
              rintro r W20 ⟨rfl, nd20, hW⟩
              have K20 := hide ((unhide K2).below (bnext (unhide B19) (show Below W19.heap.size W19 W20 by rw [hW]; exact bdrew (Below.refl _ _) _)))
              clear HVs hW B19 K2
              go_wp2
              go_roundw
              case measure => simp [RowKit.intOf]; omega
              case rel => exact ⟨i + 1, B1, H1, O1, by go_num, by omega, by omega, K20, S1⟩
    · have hlt' : ¬ (i : Int) < (len0 : Int) := by omega
      have hOn : O.length ≤ 200 := by have := unhide HL1; omega
      have lB := ck_len (unhide S0).nb
      have HCa := hide (cut2_in (unhide K0) (by omega) _ lc ((unhide HRA).below (unhide K0).bel) (by omega) (fun k hk => .inr (rb_lt (unhide HRA) hk)))
      have HCb := hide (fun (W : World) (Q : Nat → Prop) (h : KT Q w W m B H O b (if cutE H lc = 0 then vec (mrg (sy B) (sy lc)) else B) H (if cutE H lc = 0 then prL lc false O else O)) => cut2_in h (by omega) _ lc ((unhide HRA).below h.bel) (by omega) (fun k hk => .inr (rb_lt (unhide HRA) hk)))
      have la1 := cut_len lc H O
      have S1 := hide ((unhide S0).cut lc)
      have lx1 : (if cutE H lc = 0 then prL lc true O else []).length ≤ 200 := by
        split
        · exact Nat.le_trans (List.length_filter_le _ _) hOn
        · simp
      generalize (if cutE H lc = 0 then prL lc true O else []) = X1 at *
      generalize (if cutE H lc = 0 then vec (mrg (sy B) (sy lc)) else B) = N1 at *
      generalize (if cutE H lc = 0 then prL lc false O else O) = O1 at *
      generalize cutE H lc = EA at *
      have lN := ck_len (unhide S1).nb
      have n1 : O1.length ≤ 1000000 := by omega
      have n2 : (O1.length : Int) < 201 := by omega
      have zr := (unhide K0).bel.size
      clear HRS HST HSM HL1 hi hO K0 S0 S1 HRA
      go_wp2_with fail
      refine (unhide HCa).mono ?_
      rintro r W1 ⟨ax, cx, M, rfl, hM1, hM2, hx, hk1, k1⟩
      have X1r := hide hx
      have HC2 := hide (unhide HCb W1 _ hk1.swap)
      clear HCa HCb hx hk1 k1
      go_wp2_with fail
      refine (unhide HC2).mono ?_
      rintro r W2 ⟨ay, cy, M2, rfl, hM3, hM4, hy, hk2, k2⟩
      have X2r := hide ((unhide X1r).kp k2 (fun i hi h => hi (.inr h)))
      have Y2r := hide hy
      have K2 := hide hk2.swap
      have HOp := hide (ops_in _ _ X1 (unhide X2r) (unhide Y2r) (by omega))
      clear HC2 hy hk2 k2 X1r
      go_wp2_with fail
      refine (unhide HOp).mono ?_
      rintro r W3 ⟨rfl, hb3⟩
      have X3r := hide ((unhide X2r).below hb3)
      have K3 := hide ((unhide K2).below hb3)
      have HWi := hide (wipe_in _ X1 (unhide X3r) (by omega))
      clear HOp hb3 X2r Y2r K2
      go_wp2_with fail
      refine (unhide HWi).mono ?_
      rintro r W4 ⟨rfl, k4⟩
      have K4 := hide ((unhide K3).kpQ k4 (fun i hi => ⟨.inl (.inr hi), Nat.le_trans zr hi.1⟩))
      have HBe := hide (KBeyond_in (unhide K4).one n1 none 0 0 [] (.inl ⟨rfl, _, _, rfl⟩) (by simp))
      rw [bynd_nil] at HBe
      clear HWi k4 K3 X3r
      go_wp2_with fail
      refine (unhide HBe).mono ?_
      rintro r W5 ⟨rfl, hit, hb5⟩
      have K5 := hide ((unhide K4).below hb5)
      have HRe := hide (Krest_in hit 201 n2)
      unfold itV at HRe ⊢
      clear HBe hit hb5 K4
      go_wp2_with fail
      refine (unhide HRe).mono ?_
      rintro r W6 ⟨al, cl, rfl, hrl, hb6⟩
      have K6 := hide ((unhide K5).below hb6)
      have L6 := hide hrl
      have HBe := hide (KBeyond_in (unhide K6).swap.one n1 none 0 0 [] (.inl ⟨rfl, _, _, rfl⟩) (by simp))
      rw [bynd_nil] at HBe
      clear HRe hrl hb6 K5
      go_wp2_with fail
      refine (unhide HBe).mono ?_
      rintro r W7 ⟨rfl, hit, hb7⟩
      have K7 := hide ((unhide K6).below hb7)
      have L7 := hide ((unhide L6).below hb7)
      have HRe := hide (Krest_in hit 201 n2)
      unfold itV at HRe ⊢
      clear HBe hit hb7 K6 L6
      go_wp2_with fail
      refine (unhide HRe).mono ?_
      rintro r W8 ⟨al2, cl2, rfl, hrl, hb8⟩
      have K8 := hide ((unhide K7).below hb8)
      have HOp := hide (ops_in _ _ O1 ((unhide L7).below hb8) hrl n1)
      clear HRe hrl hb8 K7 L7
      go_wp2_with fail
      refine (unhide HOp).mono ?_
      rintro r W9 ⟨rfl, hb9⟩
      have K9 := hide ((unhide K8).below hb9)
      have HV1 := hide (KBase_in (unhide K9).one)
      clear HOp hb9 K8
      go_wp2_with fail
      refine (unhide HV1).mono ?_
      rintro r W10 ⟨e5, e6, rfl, rv1, hb10⟩
      have K10 := hide ((unhide K9).below hb10)
      replace rv1 := hide rv1
      have HV2 := hide (KBase_in (unhide K10).swap.one)
      clear HV1 hb10 K9
      go_wp2_with fail
      refine (unhide HV2).mono ?_
      rintro r W11 ⟨e7, e8, rfl, rv2, hb11⟩
      have K11 := hide ((unhide K10).below hb11)
      have HVs := hide (vectors_in N1 N1 _ _ W11 ((unhide rv1).below hb11) rv2 (by omega) (by omega))
      rw [decide_eq_true rfl] at HVs
      clear HV2 hb11 K10 rv1 rv2
      go_wp2_with fail
      refine (unhide HVs).mono ?_
      rintro r W12 ⟨rfl, nd12, hW⟩
      have B12 := hide (bnext (unhide K11).bel (show Below W11.heap.size W11 W12 by rw [hW]; exact bdrew (Below.refl _ _) _))
      clear HVs hW K11
      go_wp2_with fail
      refine (unhide HK _).mono ?_
      rintro r W13 ⟨rfl, hbk⟩
      go_wp2
      go_ret
      exact ⟨rfl, bnext (unhide B12) hbk⟩

theorem own : ownKnob Try.prog.godebug = none := by kernel_rfl
theorem laidOut2 : laidOutB Try.prog = true := by kernel_rfl

set_option maxRecDepth 100000 in
theorem lifted (os : Os) (started : os.Started) (H : Type) (enc : TypeId × Value → H) :
    ReturnsInHanded {} Try.checked os 3 .any (Rows.logOwnSpec.pre6 enc Try.prog Try.f3 Rows.logOwnRow.domain false) (Rows.logOwnSpec.post enc Try.prog Try.f3 false true false false) := by
  refine returnsInHanded_of_change (C := Try.checked) own started (by kernel_rfl) Try.func3
    (ChangeSpec.witness6 (enc := enc) (C := Try.checked) false ⟨#[], #[.slice none 0 0, .slice none 0 0], []⟩ 8 (by kernel_rfl) (by kernel_rfl) (by kernel_rfl) (by kernel_rfl)) ?_
  intro W base args ds gs before hval0 hW hcnd _
  have hval : ∀ (j : Nat) t v, Try.f3.params[j]? = some t → args[j]? = some v → Value.okWide Try.prog W .any base t v := hval0
  have hW' := hW
  obtain ⟨p, q, hA0, hV, rfl, hfz, hnd⟩ := hW
  have hA : DataW.TrodAll enc Try.prog W 0 (fun _ => true) true Try.f3.params.toList args.toList ds p := hA0
  rw [Try.params3] at hA hval
  obtain ⟨v0, vs0, d0, ds0, p0, q0, hargs, rfl, rfl, h0, r0⟩ := trodAll_cons hA
  obtain ⟨v1, vs1, d1, ds1, p1, q1, rfl, rfl, rfl, h1, r1⟩ := trodAll_cons r0
  obtain ⟨rfl, rfl, rfl⟩ := trodAll_nil r1
  obtain rfl : args = #[v0, v1] := by cases args; simp_all
  obtain ⟨rfl, rfl⟩ := trodVars_none hV
  obtain ⟨a0, len0, cap0, rfl⟩ := okWide_slice Try.underlying22 (hval 0 22 v0 rfl rfl)
  have k0 := h0
  have lt0 : ∀ x ∈ p0, x.block < W.heap.size := by obtain ⟨m, hm⟩ := k0; exact DataW.trod_lt m _ _ _ hm
  obtain ⟨z0, w0⟩ : ∃ l : List Stp, RC W (.slice a0 len0 cap0) l.length (flat encS l) ∧ l.length = len0 ∧ len0 ≤ maxLen ∧ ∀ e ∈ l, StW W e := by
    obtain ⟨fuel, hf⟩ := h0
    simp only [Value.cells] at hf
    exact open_steps hf
  obtain ⟨a1, len1, cap1, rfl⟩ := okWide_slice Try.underlying24 (hval 1 24 v1 rfl rfl)
  have k1 := h1
  have lt1 : ∀ x ∈ p1, x.block < W.heap.size := by obtain ⟨m, hm⟩ := k1; exact DataW.trod_lt m _ _ _ hm
  obtain ⟨z1, w1⟩ : ∃ l : List (Int × Int), RI W (.slice a1 len1 cap1) l ∧ l.length = len1 ∧ len1 ≤ maxLen ∧ ∀ e ∈ l, idIn e := by
    obtain ⟨fuel, hf⟩ := h1
    simp only [Value.cells] at hf
    exact open_dots hf
  clear hA0 hval0
  refine (walk a0 len0 cap0 z0 a1 len1 cap1 z1 W w0 w1).mono fun e W' ⟨he, bel⟩ => ?_
  subst he
  exact ⟨_, rfl, _, _, _, [], _, [], hW', trodAll_mk1 (shut_bool Try.underlying4 _), (trodAll_cons_mk (Below.trod laidOut2 (by kernel_rfl) (of_decide_eq_true (by kernel_rfl)) k0 bel lt0) (trodAll_cons_mk (Below.trod laidOut2 (by kernel_rfl) (of_decide_eq_true (by kernel_rfl)) k1 bel lt1) trodAll_mk0)), rfl, bel.frame _, fun h => by cases h⟩

theorem over : Rows.logOwnRow.holds Try.pinned (OpenSpec.ofChange Rows.logOwnSpec) :=
  OpenClaim.holds_of_wide 3 Try.f3 rfl rfl rfl rfl rfl rfl rfl ⟨rfl, rfl, rfl, rfl, rfl⟩ rfl rfl rfl rfl rfl (by kernel_rfl) Try.func3 (by kernel_rfl)
    (of_decide_eq_true (by kernel_rfl)) (by unfold Func.isWrapper; first | (rw [if_pos (by decide +kernel)]; kernel_rfl) | (rw [if_neg (by decide +kernel)]; exact ⟨rfl, rfl⟩))
    (fun os started H enc _ => lifted os started H enc)

end LLogOwn

theorem logOwn_holds : Rows.LogOwnSaid := LLogOwn.over

end Go.Proofs.Ytehmbbnmjiojgaa
