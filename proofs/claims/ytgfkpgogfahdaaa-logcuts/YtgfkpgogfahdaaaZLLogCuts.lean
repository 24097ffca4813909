/-
  Chapter 12's law LogCuts returns true for every base, every script and any two vectors, and leaves its arguments as they were; no condition.
-/
import Derived.Test.YtgfkpgogfahdaaaRows
import Derived.WalkKit
import Derived.ProofKit
import Derived.OpenShut
import Derived.ShutString
import Derived.ChangeOld
import Derived.Below
import Derived.Test.YtgfkpgogfahdaaaZLC3
import Derived.Test.YtgfkpgogfahdaaaZQ5
import Derived.Deep.RegionHeld3
set_option linter.unusedVariables false
set_option linter.unusedSimpArgs false
namespace Go.Proofs.Ytgfkpgogfahdaaa
namespace LLogCuts
open Go.ChangeShapes Go.WideShapes Go.ChangeAt Go.RowKit Go.Lib
open Go.ChangeMaps (open_string shut_string)

set_option maxRecDepth 100000 in
set_option maxHeartbeats 16000000 in
theorem walk (a0 : Option Addr) (len0 cap0 : Nat) (bs : List (Int × Int)) (a1 : Option Addr) (len1 cap1 : Nat) (ss : List Stp) (a2 : Option Addr) (len2 cap2 : Nat) (la : List (Int × Int)) (a3 : Option Addr) (len3 cap3 : Nat) (lb : List (Int × Int)) (w : World) (w0 : RI w (.slice a0 len0 cap0) bs ∧ bs.length = len0 ∧ len0 ≤ maxLen ∧ ∀ e ∈ bs, idIn e) (w1 : RC w (.slice a1 len1 cap1) ss.length (flat encS ss) ∧ ss.length = len1 ∧ len1 ≤ maxLen ∧ ∀ e ∈ ss, StW w e) (w2 : RI w (.slice a2 len2 cap2) la ∧ la.length = len2 ∧ len2 ≤ maxLen ∧ ∀ e ∈ la, idIn e) (w3 : RI w (.slice a3 len3 cap3) lb ∧ lb.length = len3 ∧ len3 ≤ maxLen ∧ ∀ e ∈ lb, idIn e) :
    Calls Try.prog 5 #[.slice a0 len0 cap0, .slice a1 len1 cap1, .slice a2 len2 cap2, .slice a3 len3 cap3] w fun e W => e = .returned (.bool true) ∧ Below w.heap.size w W := by
  obtain ⟨hr0, rfl, hm0, _⟩ := w0
  obtain ⟨hr1, hl1, hm1, hst⟩ := w1
  obtain ⟨hr2, rfl, hm2, _⟩ := w2
  obtain ⟨hr3, rfl, hm3, _⟩ := w3
  unfold maxLen at hm0 hm1 hm2 hm3
  have HMu := hide (much_in a1 len1 cap1 ss a0 bs.length cap0 w hr1 hl1 (fun s hs => (hst s hs).f) hm1 hm0)
  have HK := hide (fun W => known_in W)
  obtain ⟨MU, hMU⟩ : ∃ m, muchB ss bs.length = m := ⟨_, rfl⟩
  rw [hMU] at HMu
  cases MU with
  | true =>
    clear hMU hr0 hr1 hr2 hr3 hst
    go_enter Try.func5, Try.ntmps5
    go_wp2_with fail
    refine (unhide HMu).mono ?_
    rintro r W1 ⟨rfl, hb1⟩
    have B1 := hide hb1
    clear hb1 HMu
    go_wp2_with fail
    refine (unhide HK _).mono ?_
    rintro r W2 ⟨rfl, hb2⟩
    go_wp2
    go_ret
    exact ⟨rfl, bnext (unhide B1) hb2⟩
  | false =>
  have hmu := hMU
  unfold muchB at hmu
  rw [Bool.or_eq_false_iff, Bool.or_eq_false_iff] at hmu
  obtain ⟨hu1, hu2, hu3⟩ := hmu
  have hu1' : ss.length ≤ 200 := by simpa using hu1
  have hu2' : bs.length ≤ 60000 := by simpa using hu2
  have HSM := hide (muL_small ss 0 hu3)
  clear hMU hu1 hu2 hu3
  by_cases hma : 60000 < la.length
  · have hma' : (60000 : Int) < (la.length : Int) := by omega
    clear hr0 hr1 hr2 hr3 hst
    go_enter Try.func5, Try.ntmps5
    go_wp2_with fail
    refine (unhide HMu).mono ?_
    rintro r W1 ⟨rfl, hb1⟩
    have B1 := hide hb1
    clear hb1 HMu
    go_wp2_with fail
    refine (unhide HK _).mono ?_
    rintro r W2 ⟨rfl, hb2⟩
    go_wp2
    go_ret
    exact ⟨rfl, bnext (unhide B1) hb2⟩
  have hma' : ¬ (60000 : Int) < (la.length : Int) := by omega
  by_cases hmb : 60000 < lb.length
  · have hmb' : (60000 : Int) < (lb.length : Int) := by omega
    clear hr0 hr1 hr2 hr3 hst
    go_enter Try.func5, Try.ntmps5
    go_wp2_with fail
    refine (unhide HMu).mono ?_
    rintro r W1 ⟨rfl, hb1⟩
    have B1 := hide hb1
    clear hb1 HMu
    go_wp2_with fail
    refine (unhide HK _).mono ?_
    rintro r W2 ⟨rfl, hb2⟩
    go_wp2
    go_ret
    exact ⟨rfl, bnext (unhide B1) hb2⟩
  have hmb' : ¬ (60000 : Int) < (lb.length : Int) := by omega
  have HNe := hide (fun (W : World) (hb : Below w.heap.size w W) => New_in _ bs W (hr0.below hb) (by omega))
  unfold NewA at HNe
  have HRA := hide hr2
  have HRB := hide hr3
  have HRS := hide hr1
  have HST := hide hst
  have HL1 := hide hl1
  clear hr0 hr1 hr2 hr3 hst
  by_cases hcb : chk bs = 0
  rotate_left
  · have hcb' : (chk bs == 0) = false := by simpa using hcb
    go_enter Try.func5, Try.ntmps5
    go_wp2_with fail
    refine (unhide HMu).mono ?_
    rintro r W1 ⟨rfl, hb1⟩
    have B1 := hide hb1
    have HN := hide (unhide HNe W1 hb1)
    clear hb1 HMu HNe HRA HRB HRS HST
    go_wp2_with fail
    refine (unhide HN).mono ?_
    rintro r W2 (⟨_, rfl, hb2⟩ | ⟨h, _⟩)
    rotate_left
    · exact absurd h hcb
    have B2 := hide (bnext (unhide B1) hb2)
    clear hb2 HN
    go_wp2_with fail
    refine (unhide HK _).mono ?_
    rintro r W3 ⟨rfl, hb3⟩
    go_wp2
    go_ret
    exact ⟨rfl, bnext (unhide B2) hb3⟩
  go_enter Try.func5, Try.ntmps5
  go_wp2_with fail
  refine (unhide HMu).mono ?_
  rintro r W1 ⟨rfl, hb1⟩
  have B1 := hide hb1
  have HN := hide (unhide HNe W1 hb1)
  clear hb1 HMu
  go_wp2_with fail
  refine (unhide HN).mono ?_
  rintro r W2 (⟨h, _⟩ | ⟨_, b, rfl, hll, hb2⟩)
  · exact absurd hcb h
  have B2 := hide hb2
  have L2 := hide hll
  have HN2 := hide (unhide HNe W2 (bnext (unhide B1) hb2))
  clear hb2 HN hll HNe
  go_wp2_with fail
  refine (unhide HN2).mono ?_
  rintro r W3 (⟨h, _⟩ | ⟨_, m, rfl, hll3, hb3⟩)
  · exact absurd hcb h
  have K3 := hide (KT.new (unhide B1) (unhide L2) (unhide B2) hll3 hb3)
  have S3 := hide (ST.new hcb)
  clear hb3 HN2 hll3 B1 B2 L2 hcb
  go_wp2
  go_loopw [12] (fun iv wr => ∃ (i : Nat) (B H : List (Int × Int)) (O : List Opn), iv = .int .i64 (i : Nat) ∧ i ≤ len1 ∧ O.length ≤ i ∧ Hid (KT (fun _ => False) w wr b B H O m B H O) ∧ Hid (ST B H O)) (fun iv _ => len1 - (RowKit.intOf iv).toNat)
  case atStart => exact ⟨0, _, _, _, rfl, by omega, by simp, K3, S3⟩
  case round =>
    obtain ⟨i, B, H, O, rfl, hi, hO, K0, S0⟩ := hrel
    clear K3 S3
    by_cases hlt : i < len1
    · have hlt' : (i : Int) < (len1 : Int) := by omega
      have hls : i < ss.length := by rw [unhide HL1]; exact hlt
      obtain ⟨s, hx⟩ : ∃ s, ss[i]? = some s := ⟨_, List.getElem?_eq_getElem hls⟩
      obtain ⟨b0, off, rfl, hb0, hcell⟩ := rs_at ((unhide HRS).below (unhide K0).bel) hx
      have hcw := (rs_at (unhide HRS) hx)
      obtain ⟨b0', off', hae, hb0', hcell'⟩ := hcw
      simp only [Option.some.injEq, Addr.mk.injEq, and_true] at hae
      obtain ⟨rfl, rfl⟩ := hae
      have hsw := unhide HST s (List.mem_of_getElem? hx)
      obtain ⟨m3, m1, m2, m4⟩ := unhide HSM s (List.mem_of_getElem? hx)
      have HDo := hide (do1_in (unhide K0) (by omega) s hsw m1 m2 m3 m4)
      have HD2 := hide (fun (W : World) (h : KT (fun _ => False) w W m B H O b (doB s B H) (doH s H) (doO s H O)) => do1_in h (by omega) s hsw m1 m2 m3 m4)
      have S1 := hide ((unhide S0).do s)
      have hO1 := do_len s H O
      generalize doB s B H = B1 at *
      generalize doO s H O = O1 at *
      generalize doH s H = H1 at *
      obtain ⟨⟨ad, cd, hd⟩, ⟨ag, cg, hg⟩, ⟨av, cv, hv⟩⟩ := hsw.f
      obtain ⟨kind, o, vl, vd, vg, vv⟩ := s
      simp only at hd hg hv
      subst hd hg hv
      unfold stA at HDo HD2
      simp only at HDo HD2
      have q0 := hcell 0 _ rfl
      have r0 := hcell' 0 _ rfl
      have q1 := hcell 1 _ rfl
      have r1 := hcell' 1 _ rfl
      have q2 := hcell 2 _ rfl
      have r2 := hcell' 2 _ rfl
      have q3 := hcell 3 _ rfl
      have r3 := hcell' 3 _ rfl
      have q4 := hcell 4 _ rfl
      have r4 := hcell' 4 _ rfl
      have q5 := hcell 5 _ rfl
      have r5 := hcell' 5 _ rfl
      have q6 := hcell 6 _ rfl
      have r6 := hcell' 6 _ rfl
      have q7 := hcell 7 _ rfl
      have r7 := hcell' 7 _ rfl
      have q8 := hcell 8 _ rfl
      have r8 := hcell' 8 _ rfl
      have q9 := hcell 9 _ rfl
      have r9 := hcell' 9 _ rfl
      have q10 := hcell 10 _ rfl
      have r10 := hcell' 10 _ rfl
      have q11 := hcell 11 _ rfl
      have r11 := hcell' 11 _ rfl
      have q12 := hcell 12 _ rfl
      have r12 := hcell' 12 _ rfl
      simp only [Nat.add_zero] at q0 q1 q2 q3 q4 q5 q6 q7 q8 q9 q10 q11 q12 r0 r1 r2 r3 r4 r5 r6 r7 r8 r9 r10 r11 r12
      clear hcell hcell' hx hsw m1 m2 m3 m4 S0 K0 HRS HST HSM
      have HRR := hide (And.intro r0 (And.intro r1 (And.intro r2 (And.intro r3 (And.intro r4 (And.intro r5 (And.intro r6 (And.intro r7 (And.intro r8 (And.intro r9 (And.intro r10 (And.intro r11 r12))))))))))))
      clear r0 r1 r2 r3 r4 r5 r6 r7 r8 r9 r10 r11 r12
      go_wp2_with fail
      refine (unhide HDo).mono ?_
      rintro r W1 ⟨rfl, hk1⟩
      have HDm := hide (unhide HD2 W1 hk1.swap)
      obtain ⟨r0, r1, r2, r3, r4, r5, r6, r7, r8, r9, r10, r11, r12⟩ := unhide HRR
      have hbw := hk1.bel
      have t0 := Nat.lt_of_lt_of_le hb0' hbw.size
      replace r0 := cell_below r0 hbw
      replace r1 := cell_below r1 hbw
      replace r2 := cell_below r2 hbw
      replace r3 := cell_below r3 hbw
      replace r4 := cell_below r4 hbw
      replace r5 := cell_below r5 hbw
      replace r6 := cell_below r6 hbw
      replace r7 := cell_below r7 hbw
      replace r8 := cell_below r8 hbw
      replace r9 := cell_below r9 hbw
      replace r10 := cell_below r10 hbw
      replace r11 := cell_below r11 hbw
      replace r12 := cell_below r12 hbw
      clear hk1 HDo HD2 HRR hbw q0 q1 q2 q3 q4 q5 q6 q7 q8 q9 q10 q11 q12
      go_wp2_with fail
      refine (unhide HDm).mono ?_
      rintro r W2 ⟨rfl, hk2⟩
      have K2 := hide hk2.swap
      clear hk2 HDm r0 r1 r2 r3 r4 r5 r6 r7 r8 r9 r10 r11 r12
      go_wp2
      go_roundw
      case measure => simp [RowKit.intOf]; omega
      case rel => exact ⟨i + 1, B1, H1, O1, by go_num, by omega, by omega, K2, S1⟩
    · have hlt' : ¬ (i : Int) < (len1 : Int) := by omega
      have hOn : O.length ≤ 200 := by have := unhide HL1; omega
      have lB := chk_len (unhide S0).nb
      have lH := chk_len (unhide S0).nh
      have HBe := hide (KBeyond_in (unhide K0).one (by omega) none 0 0 [] (.inl ⟨rfl, _, _, rfl⟩) (by simp))
      rw [bynd_nil] at HBe
      clear HRS HST HSM HL1 hi hO
      go_wp2_with fail
      refine (unhide HBe).mono ?_
      rintro r W1 ⟨rfl, hit, hb1⟩
      have B1 := hide hb1
      have HRe := hide (Krest_in hit 201 (by omega))
      unfold itV at HRe ⊢
      clear HBe hit hb1
      go_wp2_with fail
      refine (unhide HRe).mono ?_
      rintro r W2 ⟨aw, cw, rfl, hrl, hb2⟩
      have B2 := hide (bnext (unhide B1) hb2)
      have R2 := hide hrl.lt
      have HVe := hide (KVectorQ_in ((unhide K0).one.below (unhide B2)))
      have z1 := (unhide B1).size
      clear HRe hrl hb2
      go_wp2_with fail
      refine (unhide HVe).mono ?_
      rintro r W3 ⟨av, cv, rfl, ho3, hb3⟩
      have B3 := bnext (unhide B2) hb3
      have z2 := (unhide B2).size
      have z3 := hb3.size
      obtain ⟨Q1, hQ1⟩ : ∃ Q : Nat → Prop, Q = fun i => False ∨ (wr.heap.size ≤ i ∧ i < W3.heap.size) := ⟨_, rfl⟩
      have K3 : Hid (KT Q1 w W3 b B H O m B H O) := hide (by rw [hQ1]; exact (unhide K0).grow B3)
      have R3 : Hid (RL Q1 W3 (.slice aw O.length cw) O) := hide (by rw [hQ1]; exact ((unhide R2).below hb3).mono (fun i hi => .inr ⟨by have := hi.1; omega, by have := hi.2; omega⟩))
      have V3 := hide ho3.row
      have VQ : Hid (∀ k, rb (.slice av H.length cv) H.length k → Q1 k) := hide (fun k hk => by rw [hQ1]; have := own_rb ho3 hk; exact .inr ⟨by omega, by omega⟩)
      have HCa := hide (cut1_in (unhide K3) (by omega) _ la ((unhide HRA).below (unhide K3).bel) (by omega) (fun k hk => .inr (rb_lt (unhide HRA) hk)))
      have la1 := cut_len la H O
      clear HVe ho3 hb3 B1 B2 B3 R2 K0 hQ1 z1 z2 z3
      obtain ⟨X1, hX1⟩ : ∃ x, (if cutE H la = 0 then prL la true O else []) = x := ⟨_, rfl⟩
      obtain ⟨N1, hN1⟩ : ∃ x, (if cutE H la = 0 then vec (mrg (sy B) (sy la)) else B) = x := ⟨_, rfl⟩
      obtain ⟨O1, hO1⟩ : ∃ x, (if cutE H la = 0 then prL la false O else O) = x := ⟨_, rfl⟩
      obtain ⟨EA, hEA⟩ : ∃ x, cutE H la = x := ⟨_, rfl⟩
      rw [hX1, hN1, hO1, hEA] at HCa
      rw [hO1] at la1
      rw [hEA] at hX1 hN1 hO1
      have GA := hide (And.intro hEA (And.intro hX1 (And.intro hN1 hO1)))
      clear hEA hX1 hN1 hO1
      go_wp2_with fail
      refine (unhide HCa).mono ?_
      rintro r W4 ⟨ax, cx, rfl, -, hk4, k4⟩
      have K4 := hide hk4
      have R4 := hide ((unhide R3).kp k4 (fun i h => h))
      have V4 := hide (RI.kpQ (unhide V3) k4 (unhide VQ))
      have HCb := hide (cut1_in (unhide K4) (by omega) _ lb ((unhide HRB).below (unhide K4).bel) (by omega) (fun k hk => .inr (rb_lt (unhide HRB) hk)))
      have lb1 := cut_len lb H O1
      obtain ⟨X2, hX2⟩ : ∃ x, (if cutE H lb = 0 then prL lb true O1 else []) = x := ⟨_, rfl⟩
      obtain ⟨N2, hN2⟩ : ∃ x, (if cutE H lb = 0 then vec (mrg (sy N1) (sy lb)) else N1) = x := ⟨_, rfl⟩
      obtain ⟨O2, hO2⟩ : ∃ x, (if cutE H lb = 0 then prL lb false O1 else O1) = x := ⟨_, rfl⟩
      obtain ⟨EB, hEB⟩ : ∃ x, cutE H lb = x := ⟨_, rfl⟩
      rw [hX2, hN2, hO2, hEB] at HCb
      rw [hO2] at lb1
      rw [hEB] at hX2 hN2 hO2
      have GB := hide (And.intro hEB (And.intro hX2 (And.intro hN2 hO2)))
      clear hEB hX2 hN2 hO2 HCa hk4 k4 K3 R3 V3
      go_wp2_with fail
      refine (unhide HCb).mono ?_
      rintro r W5 ⟨ay, cy, rfl, -, hk5, k5⟩
      have K5 := hide hk5
      have R5 := hide ((unhide R4).kp k5 (fun i h => h))
      have V5 := hide (RI.kpQ (unhide V4) k5 (unhide VQ))
      have A5 := hide ((unhide HRA).below hk5.bel)
      have Y5 := hide ((unhide HRB).below hk5.bel)
      have HKa := hide (refCheck_in _ la W5 (unhide A5) (by omega))
      clear HCb hk5 k5 K4 R4 V4 HRA HRB
      rcases cut_ways H la with ⟨ca, ea⟩ | ⟨ca, va, ea⟩ | ⟨ca, va, ea⟩
      · skip
        have hka : (chk la == 0) = false := by simpa using ca
        have hea : (EA == 0) = false := by rw [← (unhide GA).1]; simpa using ea
        obtain ⟨CA, hCA⟩ : ∃ x, chk la = x := ⟨_, rfl⟩
        rw [hCA] at HKa hka
        clear hCA
        go_wp2_with fail
        refine (unhide HKa).mono ?_
        rintro r W6 ⟨rfl, hb6⟩
        have K6 := hide ((unhide K5).below hb6)
        have R6 := hide ((unhide R5).below hb6)
        have V6 := hide ((unhide V5).below hb6)
        have A6 := hide ((unhide A5).below hb6)
        have Y6 := hide ((unhide Y5).below hb6)
        clear HKa K5 R5 V5 A5 Y5 hb6
        have HKb := hide (refCheck_in _ lb W6 (unhide Y6) (by omega))
        rcases cut_ways H lb with ⟨cb, eb⟩ | ⟨cb, vb, eb⟩ | ⟨cb, vb, eb⟩
        · skip
          have hkb : (chk lb == 0) = false := by simpa using cb
          have heb : (EB == 0) = false := by rw [← (unhide GB).1]; simpa using eb
          obtain ⟨CB, hCB⟩ : ∃ x, chk lb = x := ⟨_, rfl⟩
          rw [hCB] at HKb hkb
          clear hCB
          go_wp2_with fail
          refine (unhide HKb).mono ?_
          rintro r W7 ⟨rfl, hb7⟩
          have K7 := hide ((unhide K6).below hb7)
          have R7 := hide ((unhide R6).below hb7)
          have V7 := hide ((unhide V6).below hb7)
          have A7 := hide ((unhide A6).below hb7)
          have Y7 := hide ((unhide Y6).below hb7)
          clear HKb K6 R6 V6 A6 Y6 hb7
          have HVe := hide (KVector_in (unhide K7).one)
          go_wp2_with fail
          refine (unhide HVe).mono ?_
          rintro r W8 ⟨av2, cv2, rfl, rv2, hb8⟩
          replace rv2 := hide rv2
          have K8 := hide ((unhide K7).below hb8)
          have R8 := hide ((unhide R7).below hb8)
          have V8 := hide ((unhide V7).below hb8)
          have A8 := hide ((unhide A7).below hb8)
          have Y8 := hide ((unhide Y7).below hb8)
          clear HVe K7 R7 V7 A7 Y7 hb8
          have HVs := hide (vectors_in H H _ _ W8 (unhide rv2) (unhide V8) (by omega) (by omega))
          rw [decide_eq_true rfl] at HVs
          go_wp2_with fail
          refine (unhide HVs).mono ?_
          rintro r W9 ⟨rfl, nd9, hW⟩
          have hbn : Below W8.heap.size W8 W9 := by rw [hW]; exact bdrew (Below.refl _ _) _
          clear hW
          have K9 := hide ((unhide K8).below hbn)
          have R9 := hide ((unhide R8).below hbn)
          have V9 := hide ((unhide V8).below hbn)
          have A9 := hide ((unhide A8).below hbn)
          have Y9 := hide ((unhide Y8).below hbn)
          clear HVs rv2 K8 R8 V8 A8 Y8 hbn
          go_wp2_with fail
          refine (unhide HK _).mono ?_
          rintro r W10 ⟨rfl, hbk⟩
          go_wp2
          go_ret
          exact ⟨rfl, bnext (unhide K9).bel hbk⟩
        · skip
          have heb : (EB == 0) = false := by rw [← (unhide GB).1]; simpa using eb
          rw [cb] at HKb
          go_wp2_with fail
          refine (unhide HKb).mono ?_
          rintro r W7 ⟨rfl, hb7⟩
          have K7 := hide ((unhide K6).below hb7)
          have R7 := hide ((unhide R6).below hb7)
          have V7 := hide ((unhide V6).below hb7)
          have A7 := hide ((unhide A6).below hb7)
          have Y7 := hide ((unhide Y6).below hb7)
          clear HKb K6 R6 V6 A6 Y6 hb7
          have HCo := hide (refCovers_in _ _ H lb W7 (unhide V7) (unhide Y7) (by omega) (by omega))
          rw [vb] at HCo
          go_wp2_with fail
          refine (unhide HCo).mono ?_
          rintro r W8 ⟨rfl, hb8⟩
          have K8 := hide ((unhide K7).below hb8)
          have R8 := hide ((unhide R7).below hb8)
          have V8 := hide ((unhide V7).below hb8)
          have A8 := hide ((unhide A7).below hb8)
          have Y8 := hide ((unhide Y7).below hb8)
          clear HCo K7 R7 V7 A7 Y7 hb8
          have HVe := hide (KVector_in (unhide K8).one)
          go_wp2_with fail
          refine (unhide HVe).mono ?_
          rintro r W9 ⟨av2, cv2, rfl, rv2, hb9⟩
          replace rv2 := hide rv2
          have K9 := hide ((unhide K8).below hb9)
          have R9 := hide ((unhide R8).below hb9)
          have V9 := hide ((unhide V8).below hb9)
          have A9 := hide ((unhide A8).below hb9)
          have Y9 := hide ((unhide Y8).below hb9)
          clear HVe K8 R8 V8 A8 Y8 hb9
          have HVs := hide (vectors_in H H _ _ W9 (unhide rv2) (unhide V9) (by omega) (by omega))
          rw [decide_eq_true rfl] at HVs
          go_wp2_with fail
          refine (unhide HVs).mono ?_
          rintro r W10 ⟨rfl, nd10, hW⟩
          have hbn : Below W9.heap.size W9 W10 := by rw [hW]; exact bdrew (Below.refl _ _) _
          clear hW
          have K10 := hide ((unhide K9).below hbn)
          have R10 := hide ((unhide R9).below hbn)
          have V10 := hide ((unhide V9).below hbn)
          have A10 := hide ((unhide A9).below hbn)
          have Y10 := hide ((unhide Y9).below hbn)
          clear HVs rv2 K9 R9 V9 A9 Y9 hbn
          go_wp2_with fail
          refine (unhide HK _).mono ?_
          rintro r W11 ⟨rfl, hbk⟩
          go_wp2
          go_ret
          exact ⟨rfl, bnext (unhide K10).bel hbk⟩
        · skip
          obtain rfl : EB = 0 := by rw [← (unhide GB).1]; exact eb
          rw [cb] at HKb
          go_wp2_with fail
          refine (unhide HKb).mono ?_
          rintro r W7 ⟨rfl, hb7⟩
          have K7 := hide ((unhide K6).below hb7)
          have R7 := hide ((unhide R6).below hb7)
          have V7 := hide ((unhide V6).below hb7)
          have A7 := hide ((unhide A6).below hb7)
          have Y7 := hide ((unhide Y6).below hb7)
          clear HKb K6 R6 V6 A6 Y6 hb7
          have HCo := hide (refCovers_in _ _ H lb W7 (unhide V7) (unhide Y7) (by omega) (by omega))
          rw [vb] at HCo
          go_wp2_with fail
          refine (unhide HCo).mono ?_
          rintro r W8 ⟨rfl, hb8⟩
          have K8 := hide ((unhide K7).below hb8)
          have R8 := hide ((unhide R7).below hb8)
          have V8 := hide ((unhide V7).below hb8)
          have A8 := hide ((unhide A7).below hb8)
          have Y8 := hide ((unhide Y7).below hb8)
          clear HCo K7 R7 V7 A7 Y7 hb8
          have HVe := hide (KVector_in (unhide K8).one)
          go_wp2_with fail
          refine (unhide HVe).mono ?_
          rintro r W9 ⟨av2, cv2, rfl, rv2, hb9⟩
          replace rv2 := hide rv2
          have K9 := hide ((unhide K8).below hb9)
          have R9 := hide ((unhide R8).below hb9)
          have V9 := hide ((unhide V8).below hb9)
          have A9 := hide ((unhide A8).below hb9)
          have Y9 := hide ((unhide Y8).below hb9)
          clear HVe K8 R8 V8 A8 Y8 hb9
          have HVs := hide (vectors_in H H _ _ W9 (unhide rv2) (unhide V9) (by omega) (by omega))
          rw [decide_eq_true rfl] at HVs
          go_wp2_with fail
          refine (unhide HVs).mono ?_
          rintro r W10 ⟨rfl, nd10, hW⟩
          have hbn : Below W9.heap.size W9 W10 := by rw [hW]; exact bdrew (Below.refl _ _) _
          clear hW
          have K10 := hide ((unhide K9).below hbn)
          have R10 := hide ((unhide R9).below hbn)
          have V10 := hide ((unhide V9).below hbn)
          have A10 := hide ((unhide A9).below hbn)
          have Y10 := hide ((unhide Y9).below hbn)
          clear HVs rv2 K9 R9 V9 A9 Y9 hbn
          go_wp2_with fail
          refine (unhide HK _).mono ?_
          rintro r W11 ⟨rfl, hbk⟩
          go_wp2
          go_ret
          exact ⟨rfl, bnext (unhide K10).bel hbk⟩
      · skip
        have hea : (EA == 0) = false := by rw [← (unhide GA).1]; simpa using ea
        rw [ca] at HKa
        go_wp2_with fail
        refine (unhide HKa).mono ?_
        rintro r W6 ⟨rfl, hb6⟩
        have K6 := hide ((unhide K5).below hb6)
        have R6 := hide ((unhide R5).below hb6)
        have V6 := hide ((unhide V5).below hb6)
        have A6 := hide ((unhide A5).below hb6)
        have Y6 := hide ((unhide Y5).below hb6)
        clear HKa K5 R5 V5 A5 Y5 hb6
        have HCo := hide (refCovers_in _ _ H la W6 (unhide V6) (unhide A6) (by omega) (by omega))
        rw [va] at HCo
        go_wp2_with fail
        refine (unhide HCo).mono ?_
        rintro r W7 ⟨rfl, hb7⟩
        have K7 := hide ((unhide K6).below hb7)
        have R7 := hide ((unhide R6).below hb7)
        have V7 := hide ((unhide V6).below hb7)
        have A7 := hide ((unhide A6).below hb7)
        have Y7 := hide ((unhide Y6).below hb7)
        clear HCo K6 R6 V6 A6 Y6 hb7
        have HKb := hide (refCheck_in _ lb W7 (unhide Y7) (by omega))
        rcases cut_ways H lb with ⟨cb, eb⟩ | ⟨cb, vb, eb⟩ | ⟨cb, vb, eb⟩
        · skip
          have hkb : (chk lb == 0) = false := by simpa using cb
          have heb : (EB == 0) = false := by rw [← (unhide GB).1]; simpa using eb
          obtain ⟨CB, hCB⟩ : ∃ x, chk lb = x := ⟨_, rfl⟩
          rw [hCB] at HKb hkb
          clear hCB
          go_wp2_with fail
          refine (unhide HKb).mono ?_
          rintro r W8 ⟨rfl, hb8⟩
          have K8 := hide ((unhide K7).below hb8)
          have R8 := hide ((unhide R7).below hb8)
          have V8 := hide ((unhide V7).below hb8)
          have A8 := hide ((unhide A7).below hb8)
          have Y8 := hide ((unhide Y7).below hb8)
          clear HKb K7 R7 V7 A7 Y7 hb8
          have HVe := hide (KVector_in (unhide K8).one)
          go_wp2_with fail
          refine (unhide HVe).mono ?_
          rintro r W9 ⟨av2, cv2, rfl, rv2, hb9⟩
          replace rv2 := hide rv2
          have K9 := hide ((unhide K8).below hb9)
          have R9 := hide ((unhide R8).below hb9)
          have V9 := hide ((unhide V8).below hb9)
          have A9 := hide ((unhide A8).below hb9)
          have Y9 := hide ((unhide Y8).below hb9)
          clear HVe K8 R8 V8 A8 Y8 hb9
          have HVs := hide (vectors_in H H _ _ W9 (unhide rv2) (unhide V9) (by omega) (by omega))
          rw [decide_eq_true rfl] at HVs
          go_wp2_with fail
          refine (unhide HVs).mono ?_
          rintro r W10 ⟨rfl, nd10, hW⟩
          have hbn : Below W9.heap.size W9 W10 := by rw [hW]; exact bdrew (Below.refl _ _) _
          clear hW
          have K10 := hide ((unhide K9).below hbn)
          have R10 := hide ((unhide R9).below hbn)
          have V10 := hide ((unhide V9).below hbn)
          have A10 := hide ((unhide A9).below hbn)
          have Y10 := hide ((unhide Y9).below hbn)
          clear HVs rv2 K9 R9 V9 A9 Y9 hbn
          go_wp2_with fail
          refine (unhide HK _).mono ?_
          rintro r W11 ⟨rfl, hbk⟩
          go_wp2
          go_ret
          exact ⟨rfl, bnext (unhide K10).bel hbk⟩
        · skip
          have heb : (EB == 0) = false := by rw [← (unhide GB).1]; simpa using eb
          rw [cb] at HKb
          go_wp2_with fail
          refine (unhide HKb).mono ?_
          rintro r W8 ⟨rfl, hb8⟩
          have K8 := hide ((unhide K7).below hb8)
          have R8 := hide ((unhide R7).below hb8)
          have V8 := hide ((unhide V7).below hb8)
          have A8 := hide ((unhide A7).below hb8)
          have Y8 := hide ((unhide Y7).below hb8)
          clear HKb K7 R7 V7 A7 Y7 hb8
          have HCo := hide (refCovers_in _ _ H lb W8 (unhide V8) (unhide Y8) (by omega) (by omega))
          rw [vb] at HCo
          go_wp2_with fail
          refine (unhide HCo).mono ?_
          rintro r W9 ⟨rfl, hb9⟩
          have K9 := hide ((unhide K8).below hb9)
          have R9 := hide ((unhide R8).below hb9)
          have V9 := hide ((unhide V8).below hb9)
          have A9 := hide ((unhide A8).below hb9)
          have Y9 := hide ((unhide Y8).below hb9)
          clear HCo K8 R8 V8 A8 Y8 hb9
          have HVe := hide (KVector_in (unhide K9).one)
          go_wp2_with fail
          refine (unhide HVe).mono ?_
          rintro r W10 ⟨av2, cv2, rfl, rv2, hb10⟩
          replace rv2 := hide rv2
          have K10 := hide ((unhide K9).below hb10)
          have R10 := hide ((unhide R9).below hb10)
          have V10 := hide ((unhide V9).below hb10)
          have A10 := hide ((unhide A9).below hb10)
          have Y10 := hide ((unhide Y9).below hb10)
          clear HVe K9 R9 V9 A9 Y9 hb10
          have HVs := hide (vectors_in H H _ _ W10 (unhide rv2) (unhide V10) (by omega) (by omega))
          rw [decide_eq_true rfl] at HVs
          go_wp2_with fail
          refine (unhide HVs).mono ?_
          rintro r W11 ⟨rfl, nd11, hW⟩
          have hbn : Below W10.heap.size W10 W11 := by rw [hW]; exact bdrew (Below.refl _ _) _
          clear hW
          have K11 := hide ((unhide K10).below hbn)
          have R11 := hide ((unhide R10).below hbn)
          have V11 := hide ((unhide V10).below hbn)
          have A11 := hide ((unhide A10).below hbn)
          have Y11 := hide ((unhide Y10).below hbn)
          clear HVs rv2 K10 R10 V10 A10 Y10 hbn
          go_wp2_with fail
          refine (unhide HK _).mono ?_
          rintro r W12 ⟨rfl, hbk⟩
          go_wp2
          go_ret
          exact ⟨rfl, bnext (unhide K11).bel hbk⟩
        · skip
          obtain rfl : EB = 0 := by rw [← (unhide GB).1]; exact eb
          rw [cb] at HKb
          go_wp2_with fail
          refine (unhide HKb).mono ?_
          rintro r W8 ⟨rfl, hb8⟩
          have K8 := hide ((unhide K7).below hb8)
          have R8 := hide ((unhide R7).below hb8)
          have V8 := hide ((unhide V7).below hb8)
          have A8 := hide ((unhide A7).below hb8)
          have Y8 := hide ((unhide Y7).below hb8)
          clear HKb K7 R7 V7 A7 Y7 hb8
          have HCo := hide (refCovers_in _ _ H lb W8 (unhide V8) (unhide Y8) (by omega) (by omega))
          rw [vb] at HCo
          go_wp2_with fail
          refine (unhide HCo).mono ?_
          rintro r W9 ⟨rfl, hb9⟩
          have K9 := hide ((unhide K8).below hb9)
          have R9 := hide ((unhide R8).below hb9)
          have V9 := hide ((unhide V8).below hb9)
          have A9 := hide ((unhide A8).below hb9)
          have Y9 := hide ((unhide Y8).below hb9)
          clear HCo K8 R8 V8 A8 Y8 hb9
          have HVe := hide (KVector_in (unhide K9).one)
          go_wp2_with fail
          refine (unhide HVe).mono ?_
          rintro r W10 ⟨av2, cv2, rfl, rv2, hb10⟩
          replace rv2 := hide rv2
          have K10 := hide ((unhide K9).below hb10)
          have R10 := hide ((unhide R9).below hb10)
          have V10 := hide ((unhide V9).below hb10)
          have A10 := hide ((unhide A9).below hb10)
          have Y10 := hide ((unhide Y9).below hb10)
          clear HVe K9 R9 V9 A9 Y9 hb10
          have HVs := hide (vectors_in H H _ _ W10 (unhide rv2) (unhide V10) (by omega) (by omega))
          rw [decide_eq_true rfl] at HVs
          go_wp2_with fail
          refine (unhide HVs).mono ?_
          rintro r W11 ⟨rfl, nd11, hW⟩
          have hbn : Below W10.heap.size W10 W11 := by rw [hW]; exact bdrew (Below.refl _ _) _
          clear hW
          have K11 := hide ((unhide K10).below hbn)
          have R11 := hide ((unhide R10).below hbn)
          have V11 := hide ((unhide V10).below hbn)
          have A11 := hide ((unhide A10).below hbn)
          have Y11 := hide ((unhide Y10).below hbn)
          clear HVs rv2 K10 R10 V10 A10 Y10 hbn
          go_wp2_with fail
          refine (unhide HK _).mono ?_
          rintro r W12 ⟨rfl, hbk⟩
          go_wp2
          go_ret
          exact ⟨rfl, bnext (unhide K11).bel hbk⟩
      · skip
        obtain rfl : EA = 0 := by rw [← (unhide GA).1]; exact ea
        rw [ca] at HKa
        go_wp2_with fail
        refine (unhide HKa).mono ?_
        rintro r W6 ⟨rfl, hb6⟩
        have K6 := hide ((unhide K5).below hb6)
        have R6 := hide ((unhide R5).below hb6)
        have V6 := hide ((unhide V5).below hb6)
        have A6 := hide ((unhide A5).below hb6)
        have Y6 := hide ((unhide Y5).below hb6)
        clear HKa K5 R5 V5 A5 Y5 hb6
        have HCo := hide (refCovers_in _ _ H la W6 (unhide V6) (unhide A6) (by omega) (by omega))
        rw [va] at HCo
        go_wp2_with fail
        refine (unhide HCo).mono ?_
        rintro r W7 ⟨rfl, hb7⟩
        have K7 := hide ((unhide K6).below hb7)
        have R7 := hide ((unhide R6).below hb7)
        have V7 := hide ((unhide V6).below hb7)
        have A7 := hide ((unhide A6).below hb7)
        have Y7 := hide ((unhide Y6).below hb7)
        clear HCo K6 R6 V6 A6 Y6 hb7
        have HKb := hide (refCheck_in _ lb W7 (unhide Y7) (by omega))
        rcases cut_ways H lb with ⟨cb, eb⟩ | ⟨cb, vb, eb⟩ | ⟨cb, vb, eb⟩
        · skip
          have hkb : (chk lb == 0) = false := by simpa using cb
          have heb : (EB == 0) = false := by rw [← (unhide GB).1]; simpa using eb
          obtain ⟨CB, hCB⟩ : ∃ x, chk lb = x := ⟨_, rfl⟩
          rw [hCB] at HKb hkb
          clear hCB
          go_wp2_with fail
          refine (unhide HKb).mono ?_
          rintro r W8 ⟨rfl, hb8⟩
          have K8 := hide ((unhide K7).below hb8)
          have R8 := hide ((unhide R7).below hb8)
          have V8 := hide ((unhide V7).below hb8)
          have A8 := hide ((unhide A7).below hb8)
          have Y8 := hide ((unhide Y7).below hb8)
          clear HKb K7 R7 V7 A7 Y7 hb8
          have HVe := hide (KVector_in (unhide K8).one)
          go_wp2_with fail
          refine (unhide HVe).mono ?_
          rintro r W9 ⟨av2, cv2, rfl, rv2, hb9⟩
          replace rv2 := hide rv2
          have K9 := hide ((unhide K8).below hb9)
          have R9 := hide ((unhide R8).below hb9)
          have V9 := hide ((unhide V8).below hb9)
          have A9 := hide ((unhide A8).below hb9)
          have Y9 := hide ((unhide Y8).below hb9)
          clear HVe K8 R8 V8 A8 Y8 hb9
          have HVs := hide (vectors_in H H _ _ W9 (unhide rv2) (unhide V9) (by omega) (by omega))
          rw [decide_eq_true rfl] at HVs
          go_wp2_with fail
          refine (unhide HVs).mono ?_
          rintro r W10 ⟨rfl, nd10, hW⟩
          have hbn : Below W9.heap.size W9 W10 := by rw [hW]; exact bdrew (Below.refl _ _) _
          clear hW
          have K10 := hide ((unhide K9).below hbn)
          have R10 := hide ((unhide R9).below hbn)
          have V10 := hide ((unhide V9).below hbn)
          have A10 := hide ((unhide A9).below hbn)
          have Y10 := hide ((unhide Y9).below hbn)
          clear HVs rv2 K9 R9 V9 A9 Y9 hbn
          go_wp2_with fail
          refine (unhide HK _).mono ?_
          rintro r W11 ⟨rfl, hbk⟩
          go_wp2
          go_ret
          exact ⟨rfl, bnext (unhide K10).bel hbk⟩
        · skip
          have heb : (EB == 0) = false := by rw [← (unhide GB).1]; simpa using eb
          rw [cb] at HKb
          go_wp2_with fail
          refine (unhide HKb).mono ?_
          rintro r W8 ⟨rfl, hb8⟩
          have K8 := hide ((unhide K7).below hb8)
          have R8 := hide ((unhide R7).below hb8)
          have V8 := hide ((unhide V7).below hb8)
          have A8 := hide ((unhide A7).below hb8)
          have Y8 := hide ((unhide Y7).below hb8)
          clear HKb K7 R7 V7 A7 Y7 hb8
          have HCo := hide (refCovers_in _ _ H lb W8 (unhide V8) (unhide Y8) (by omega) (by omega))
          rw [vb] at HCo
          go_wp2_with fail
          refine (unhide HCo).mono ?_
          rintro r W9 ⟨rfl, hb9⟩
          have K9 := hide ((unhide K8).below hb9)
          have R9 := hide ((unhide R8).below hb9)
          have V9 := hide ((unhide V8).below hb9)
          have A9 := hide ((unhide A8).below hb9)
          have Y9 := hide ((unhide Y8).below hb9)
          clear HCo K8 R8 V8 A8 Y8 hb9
          have HVe := hide (KVector_in (unhide K9).one)
          go_wp2_with fail
          refine (unhide HVe).mono ?_
          rintro r W10 ⟨av2, cv2, rfl, rv2, hb10⟩
          replace rv2 := hide rv2
          have K10 := hide ((unhide K9).below hb10)
          have R10 := hide ((unhide R9).below hb10)
          have V10 := hide ((unhide V9).below hb10)
          have A10 := hide ((unhide A9).below hb10)
          have Y10 := hide ((unhide Y9).below hb10)
          clear HVe K9 R9 V9 A9 Y9 hb10
          have HVs := hide (vectors_in H H _ _ W10 (unhide rv2) (unhide V10) (by omega) (by omega))
          rw [decide_eq_true rfl] at HVs
          go_wp2_with fail
          refine (unhide HVs).mono ?_
          rintro r W11 ⟨rfl, nd11, hW⟩
          have hbn : Below W10.heap.size W10 W11 := by rw [hW]; exact bdrew (Below.refl _ _) _
          clear hW
          have K11 := hide ((unhide K10).below hbn)
          have R11 := hide ((unhide R10).below hbn)
          have V11 := hide ((unhide V10).below hbn)
          have A11 := hide ((unhide A10).below hbn)
          have Y11 := hide ((unhide Y10).below hbn)
          clear HVs rv2 K10 R10 V10 A10 Y10 hbn
          go_wp2_with fail
          refine (unhide HK _).mono ?_
          rintro r W12 ⟨rfl, hbk⟩
          go_wp2
          go_ret
          exact ⟨rfl, bnext (unhide K11).bel hbk⟩
        · skip
          obtain rfl : EB = 0 := by rw [← (unhide GB).1]; exact eb
          rw [cb] at HKb
          go_wp2_with fail
          refine (unhide HKb).mono ?_
          rintro r W8 ⟨rfl, hb8⟩
          have K8 := hide ((unhide K7).below hb8)
          have R8 := hide ((unhide R7).below hb8)
          have V8 := hide ((unhide V7).below hb8)
          have A8 := hide ((unhide A7).below hb8)
          have Y8 := hide ((unhide Y7).below hb8)
          clear HKb K7 R7 V7 A7 Y7 hb8
          have HCo := hide (refCovers_in _ _ H lb W8 (unhide V8) (unhide Y8) (by omega) (by omega))
          rw [vb] at HCo
          go_wp2_with fail
          refine (unhide HCo).mono ?_
          rintro r W9 ⟨rfl, hb9⟩
          have K9 := hide ((unhide K8).below hb9)
          have R9 := hide ((unhide R8).below hb9)
          have V9 := hide ((unhide V8).below hb9)
          have A9 := hide ((unhide A8).below hb9)
          have Y9 := hide ((unhide Y8).below hb9)
          clear HCo K8 R8 V8 A8 Y8 hb9
          have HVe := hide (KVector_in (unhide K9).one)
          go_wp2_with fail
          refine (unhide HVe).mono ?_
          rintro r W10 ⟨av2, cv2, rfl, rv2, hb10⟩
          replace rv2 := hide rv2
          have K10 := hide ((unhide K9).below hb10)
          have R10 := hide ((unhide R9).below hb10)
          have V10 := hide ((unhide V9).below hb10)
          have A10 := hide ((unhide A9).below hb10)
          have Y10 := hide ((unhide Y9).below hb10)
          clear HVe K9 R9 V9 A9 Y9 hb10
          have HVs := hide (vectors_in H H _ _ W10 (unhide rv2) (unhide V10) (by omega) (by omega))
          rw [decide_eq_true rfl] at HVs
          go_wp2_with fail
          refine (unhide HVs).mono ?_
          rintro r W11 ⟨rfl, nd11, hW⟩
          have hbn : Below W10.heap.size W10 W11 := by rw [hW]; exact bdrew (Below.refl _ _) _
          clear hW
          have K11 := hide ((unhide K10).below hbn)
          have R11 := hide ((unhide R10).below hbn)
          have V11 := hide ((unhide V10).below hbn)
          have A11 := hide ((unhide A10).below hbn)
          have Y11 := hide ((unhide Y10).below hbn)
          clear HVs rv2 K10 R10 V10 A10 Y10 hbn
          obtain ⟨both, hbo⟩ : ∃ x, vec (mrg (sy la) (sy lb)) = x := ⟨_, rfl⟩
          obtain ⟨f1, f2, f3, f4, f5, f6⟩ := cut_both (unhide S0) hbo va vb
          obtain ⟨_, gx1, gn1, go1⟩ := unhide GA
          obtain ⟨_, gx2, gn2, go2⟩ := unhide GB
          simp only [if_true] at gx1 gn1 go1 gx2 gn2 go2
          rw [go1] at f4 f5
          rw [gn1] at f3
          rw [gn2] at f3
          rw [go2] at f4
          rw [gx1, gx2] at f5
          have lbo := chk_len f1
          have lbo2 : both.length ≤ 140737488355328 := by omega
          have HMe := hide (refMerge_in _ _ la lb W11 (unhide A11) (unhide Y11) (by omega) (by omega))
          rw [hbo] at HMe
          clear GA GB gx1 gn1 go1 gx2 gn2 go2
          go_wp2_with fail
          refine (unhide HMe).mono ?_
          rintro r W12 ⟨vbo, rfl, hobo, hbm⟩
          obtain ⟨abo, cbo, rfl⟩ := hobo.form
          obtain ⟨Q2, hQ2⟩ : ∃ Q : Nat → Prop, Q = fun i => Q1 i ∨ (W11.heap.size ≤ i ∧ i < W12.heap.size) := ⟨_, rfl⟩
          have K40 : Hid (KT Q2 w W12 b N2 H O2 m B H O) := hide (by rw [hQ2]; exact (unhide K11).grow hbm)
          have R40 : Hid (RL Q2 W12 (.slice aw O.length cw) O) := hide (by rw [hQ2]; exact ((unhide R11).below hbm).mono (fun i hi => .inl hi))
          have M40 := hide hobo.row
          have MQ : Hid (∀ k, rb (.slice abo both.length cbo) both.length k → Q2 k) := hide (fun k hk => by rw [hQ2]; exact .inr (own_rb hobo hk))
          have HCm := hide (cut1_in (unhide K40).swap (by omega) _ both (unhide M40) (by omega) (fun k hk => .inl (unhide MQ k hk)))
          rw [f2, if_pos rfl, if_pos rfl, if_pos rfl] at HCm
          obtain ⟨Z, hZ⟩ : ∃ x, prL both true O = x := ⟨_, rfl⟩
          obtain ⟨OM, hOM⟩ : ∃ x, prL both false O = x := ⟨_, rfl⟩
          obtain ⟨BM, hBM⟩ : ∃ x, vec (mrg (sy B) (sy both)) = x := ⟨_, rfl⟩
          rw [hZ, hOM, hBM] at HCm
          rw [hZ] at f5 f6
          rw [hOM] at f4 f6
          rw [hBM] at f3
          subst f4 f3
          have HZ := hide hZ
          have HOM := hide hOM
          have lN2 : N2.length ≤ 17 := by rw [← hBM]; exact vec_len _
          clear HMe hobo hbm K11 R11 V11 A11 Y11 hQ2 hZ hOM hBM f1 f2 hbo
          go_wp2_with fail
          refine (unhide HCm).mono ?_
          rintro r W41 ⟨az, cz, rfl, hrz, hk41, k41⟩
          have K41 := hide hk41.swap
          have Z41 := hide hrz
          have R41 := hide ((unhide R40).kp k41 (fun i h => h))
          have M41 := hide (RI.kpQ (unhide M40) k41 (unhide MQ))
          have HBa := hide (KBase_in (unhide K41).one)
          clear HCm hk41 k41 hrz K40 R40 M40 MQ VQ
          go_wp2_with fail
          refine (unhide HBa).mono ?_
          rintro r W42 ⟨ab2, cb2, rfl, rb2, hb42⟩
          have K42 := hide ((unhide K41).below hb42)
          have Z42 := hide ((unhide Z41).below hb42)
          have R42 := hide ((unhide R41).below hb42)
          have M42 := hide ((unhide M41).below hb42)
          replace rb2 := hide rb2
          have HBm := hide (KBase_in (unhide K42).swap.one)
          clear HBa K41 Z41 R41 M41 hb42
          go_wp2_with fail
          refine (unhide HBm).mono ?_
          rintro r W43 ⟨ab3, cb3, rfl, rb3, hb43⟩
          have K43 := hide ((unhide K42).below hb43)
          have Z43 := hide ((unhide Z42).below hb43)
          have R43 := hide ((unhide R42).below hb43)
          have M43 := hide ((unhide M42).below hb43)
          have HVs := hide (vectors_in N2 N2 _ _ W43 ((unhide rb2).below hb43) rb3 (by omega) (by omega))
          rw [decide_eq_true rfl] at HVs
          clear HBm K42 Z42 R42 M42 rb2 rb3 hb43
          go_wp2_with fail
          refine (unhide HVs).mono ?_
          rintro r W44 ⟨rfl, nd44, hW⟩
          have hb44 : Below W43.heap.size W43 W44 := by rw [hW]; exact bdrew (Below.refl _ _) _
          have K44 := hide ((unhide K43).below hb44)
          have Z44 := hide ((unhide Z43).below hb44)
          have R44 := hide ((unhide R43).below hb44)
          have M44 := hide ((unhide M43).below hb44)
          have HLe := hide (KLen_in (unhide K44).one)
          have HLm := hide (KLen_in (unhide K44).swap.one)
          clear HVs K43 Z43 R43 M43 hW hb44
          have n1 : O2.length ≤ 1000000 := by omega
          have lo2 : O2.length ≤ 200 := by omega
          have lz2 : Z.length ≤ 200 := by omega
          have n2 : (O2.length : Int) < 201 := by omega
          have ex : ((X1.length : Int) + (X2.length : Int)) = (Z.length : Int) := by omega
          have ey : ((Z.length : Int) + (O2.length : Int)) = (O.length : Int) := by omega
          have bx : -9223372036854775808 ≤ ((X1.length : Int) + (X2.length : Int)) ∧ ((X1.length : Int) + (X2.length : Int)) ≤ 9223372036854775807 := by omega
          have by' : -9223372036854775808 ≤ ((Z.length : Int) + (O2.length : Int)) ∧ ((Z.length : Int) + (O2.length : Int)) ≤ 9223372036854775807 := by omega
          have wx1 : wrap64 ((X1.length : Int) + (X2.length : Int)) = (Z.length : Int) := (IntWalk.wrap64_in ((X1.length : Int) + (X2.length : Int)) bx).trans ex
          have wx2 : IntKind.i64.wrap ((X1.length : Int) + (X2.length : Int)) = (Z.length : Int) := (IntWalk.i64_in ((X1.length : Int) + (X2.length : Int)) bx).trans ex
          have wy1 : wrap64 ((Z.length : Int) + (O2.length : Int)) = (O.length : Int) := (IntWalk.wrap64_in ((Z.length : Int) + (O2.length : Int)) by').trans ey
          have wy2 : IntKind.i64.wrap ((Z.length : Int) + (O2.length : Int)) = (O.length : Int) := (IntWalk.i64_in ((Z.length : Int) + (O2.length : Int)) by').trans ey
          clear ex ey bx by'
          replace f5 := hide f5
          replace f6 := hide f6
          go_wp2_with fail
          refine (unhide HLe).mono ?_
          rintro r W44a ⟨rfl, rfl⟩
          clear HLe
          go_wp2_with fail
          refine (unhide HLm).mono ?_
          rintro r W44b ⟨rfl, rfl⟩
          go_wp2_with fail
          refine (unhide HLm).mono ?_
          rintro r W44c ⟨rfl, rfl⟩
          have HBe := hide (KBeyond_in (unhide K44).one n1 none 0 0 [] (.inl ⟨rfl, _, _, rfl⟩) (by simp))
          rw [bynd_nil] at HBe
          clear HLm
          go_wp2_with fail
          refine (unhide HBe).mono ?_
          rintro r W45 ⟨rfl, hit, hb45⟩
          clear wx1 wx2 wy1 wy2
          have K45 := hide ((unhide K44).below hb45)
          have Z45 := hide ((unhide Z44).below hb45)
          have R45 := hide ((unhide R44).below hb45)
          have M45 := hide ((unhide M44).below hb45)
          have HRe := hide (Krest_in hit 201 n2)
          unfold itV at HRe ⊢
          clear HBe hit hb45 K44 Z44 R44 M44
          go_wp2_with fail
          refine (unhide HRe).mono ?_
          rintro r W46 ⟨al, cl, rfl, hrl, hb46⟩
          have K46 := hide ((unhide K45).below hb46)
          have Z46 := hide ((unhide Z45).below hb46)
          have R46 := hide ((unhide R45).below hb46)
          have M46 := hide ((unhide M45).below hb46)
          have L46 := hide hrl
          have HBe := hide (KBeyond_in (unhide K46).swap.one n1 none 0 0 [] (.inl ⟨rfl, _, _, rfl⟩) (by simp))
          rw [bynd_nil] at HBe
          clear HRe hrl hb46 K45 Z45 R45 M45
          go_wp2_with fail
          refine (unhide HBe).mono ?_
          rintro r W47 ⟨rfl, hit, hb47⟩
          have K47 := hide ((unhide K46).below hb47)
          have Z47 := hide ((unhide Z46).below hb47)
          have R47 := hide ((unhide R46).below hb47)
          have M47 := hide ((unhide M46).below hb47)
          have L47 := hide ((unhide L46).below hb47)
          have HRe := hide (Krest_in hit 201 n2)
          unfold itV at HRe ⊢
          clear HBe hit hb47 K46 Z46 R46 M46 L46
          go_wp2_with fail
          refine (unhide HRe).mono ?_
          rintro r W48 ⟨al2, cl2, rfl, hrl, hb48⟩
          have K48 := hide ((unhide K47).below hb48)
          have Z48 := hide ((unhide Z47).below hb48)
          have R48 := hide ((unhide R47).below hb48)
          have M48 := hide ((unhide M47).below hb48)
          have L48 := hide ((unhide L47).below hb48)
          have HOp := hide (ops_in _ _ O2 (unhide L48) hrl n1)
          clear HRe hrl hb48 K47 Z47 R47 M47 L47
          go_wp2_with fail
          refine (unhide HOp).mono ?_
          rintro r W49 ⟨rfl, hb49⟩
          have BW := hide (bnext (unhide K48).bel hb49)
          have Z49 := hide ((unhide Z48).below hb49)
          have R49 := hide ((unhide R48).below hb49)
          have M49 := hide ((unhide M48).below hb49)
          have L49 := hide ((unhide L48).below hb49)
          clear HOp hb49 K48 Z48 R48 M48 L48
          obtain ⟨LW, hLW⟩ : ∃ x, O.length = x := ⟨_, rfl⟩
          obtain ⟨LZ, hLZ⟩ : ∃ x, Z.length = x := ⟨_, rfl⟩
          obtain ⟨LO, hLO⟩ : ∃ x, O2.length = x := ⟨_, rfl⟩
          rw [hLW] at R49 hOn ⊢
          rw [hLZ] at Z49 lz2 ⊢
          rw [hLO] at L49 lo2 ⊢
          have HLW := hide hLW
          have HLZ := hide hLZ
          have HLO := hide hLO
          clear hLW hLZ hLO S0 ea eb ca cb va vb n1 n2
          go_wp2
          go_loopw [23, 24, 25] (fun nv kv iv wr => ∃ (i : Nat), iv = .int .i64 (i : Nat) ∧ i ≤ LW ∧ nv = .int .i64 ((prL both true (O.take i)).length : Nat) ∧ kv = .int .i64 ((prL both false (O.take i)).length : Nat) ∧ Hid (Below W49.heap.size W49 wr)) (fun _ _ iv _ => LW - (RowKit.intOf iv).toNat)
          case atStart => exact ⟨0, rfl, Nat.zero_le _, by rw [List.take_zero]; rfl, by rw [List.take_zero]; rfl, hide (Below.refl _ _)⟩
          case round =>
            obtain ⟨j, rfl, hj, rfl, rfl, HB⟩ := hrel
            by_cases hlt2 : j < LW
            · have hlt2' : (j : Int) < (LW : Int) := by omega
              have hls : j < O.length := by rw [unhide HLW]; exact hlt2
              obtain ⟨o, hx⟩ : ∃ o, O[j]? = some o := ⟨_, List.getElem?_eq_getElem hls⟩
              have rw0 := (unhide R49).below (unhide HB)
              obtain ⟨_, _, _, b0, off, ad, cd, ag, cg, e1, e2, e3, hb0, hc, rd, rg, s1, s2⟩ := rl_at rw0 hx
              simp only [Value.slice.injEq] at e1
              rw [← e1.1] at e3
              subst e3
              clear e1 e2 rw0
              have m0 := (unhide M49).below (unhide HB)
              have HHa0 := refHas_in (.slice abo both.length cbo) both o.ds o.dq wr m0 lbo2
              have HHa := hide HHa0
              clear HHa0
              have p0 := hc 0 _ rfl
              have p1 := hc 1 _ rfl
              simp only [Nat.add_zero] at p0 p1
              obtain ⟨hh0, hh⟩ : ∃ x, hasV both (o.ds, o.dq) = x := ⟨_, rfl⟩
              cases hh0
              · rw [hh] at HHa
                obtain ⟨g1, g2, g3, g4⟩ := prL_at hx hh
                simp only [Bool.not_true, Bool.not_false] at g4
                rw [unhide HOM] at g1 g2
                rw [unhide HLO] at g2
                obtain ⟨N, hN⟩ : ∃ x, (prL both false (O.take j)).length = x := ⟨_, rfl⟩
                obtain ⟨N', hN'⟩ : ∃ x, (prL both true (O.take j)).length = x := ⟨_, rfl⟩
                rw [hN] at g1 g2 g3 ⊢
                rw [hN'] at g4 ⊢
                have HG3 := hide g3
                have HG4 := hide g4
                have rz0 := (unhide L49).below (unhide HB)
                obtain ⟨_, _, _, b1, off', ad', cd', ag', cg', e1, e2, e3, hb1, hc', rd', rg', _, _⟩ := rl_at rz0 g1
                simp only [Value.slice.injEq] at e1
                rw [← e1.1] at e3
                subst e3
                clear e1 e2 rz0 hN hN' g3 g4
                have hge : ¬ ((LO : Int) ≤ (N : Int)) := by omega
                have hnl : (N : Int) < (LO : Int) := by omega
                have HSa := hide (fun (W : World) (hb : Hid (Below wr.heap.size wr W)) => lsame_in o _ _ _ _ W (rd'.below (unhide hb)) (RC.below rg' (unhide hb)) (rd.below (unhide hb)) (RC.below rg (unhide hb)) s1 s2)
                unfold opA at HSa
                have HC := hide hc
                have HC' := hide hc'
                clear hc hc' rd rg rd' rg' hx g1 m0
                go_wp2_with fail
                refine (unhide HHa).mono ?_
                rintro r W50 ⟨rfl, hb50⟩
                have hc := unhide HC
                have hc' := unhide HC'
                have p0 := cell_below (hc 0 _ rfl) hb50
                have q0 := cell_below (hc' 0 _ rfl) hb50
                have p1 := cell_below (hc 1 _ rfl) hb50
                have q1 := cell_below (hc' 1 _ rfl) hb50
                have p2 := cell_below (hc 2 _ rfl) hb50
                have q2 := cell_below (hc' 2 _ rfl) hb50
                have p3 := cell_below (hc 3 _ rfl) hb50
                have q3 := cell_below (hc' 3 _ rfl) hb50
                have p4 := cell_below (hc 4 _ rfl) hb50
                have q4 := cell_below (hc' 4 _ rfl) hb50
                have p5 := cell_below (hc 5 _ rfl) hb50
                have q5 := cell_below (hc' 5 _ rfl) hb50
                have p6 := cell_below (hc 6 _ rfl) hb50
                have q6 := cell_below (hc' 6 _ rfl) hb50
                have p7 := cell_below (hc 7 _ rfl) hb50
                have q7 := cell_below (hc' 7 _ rfl) hb50
                have p8 := cell_below (hc 8 _ rfl) hb50
                have q8 := cell_below (hc' 8 _ rfl) hb50
                have p9 := cell_below (hc 9 _ rfl) hb50
                have q9 := cell_below (hc' 9 _ rfl) hb50
                have p10 := cell_below (hc 10 _ rfl) hb50
                have q10 := cell_below (hc' 10 _ rfl) hb50
                simp only [Nat.add_zero] at p0 p1 p2 p3 p4 p5 p6 p7 p8 p9 p10 q0 q1 q2 q3 q4 q5 q6 q7 q8 q9 q10
                have t0 := Nat.lt_of_lt_of_le hb0 hb50.size
                have t1 := Nat.lt_of_lt_of_le hb1 hb50.size
                have B50 : Hid (Below wr.heap.size wr W50.drew) := hide hb50.drew
                clear hc hc' HC HC' HHa hb50 hge
                go_wp2_with fail
                have hgd : decide ((LO : Int) ≤ (N : Int)) = false := decide_eq_false (Int.not_le.mpr hnl)
                have hgq : ((LO : Int) ≤ (N : Int)) = False := eq_false (Int.not_le.mpr hnl)
                go_region_held3 (fun w' => w'.cell? ⟨b1, off' + N * 11, none⟩ = some (.int .i64 o.ds) ∧ w'.cell? ⟨b1, off' + N * 11 + 1, none⟩ = some (.int .i64 o.dq) ∧ w'.cell? ⟨b1, off' + N * 11 + 2, none⟩ = some (.slice ad' o.deps.length cd') ∧ w'.cell? ⟨b1, off' + N * 11 + 3, none⟩ = some (.int .i64 o.kind) ∧ w'.cell? ⟨b1, off' + N * 11 + 4, none⟩ = some (.int .i64 o.it) ∧ w'.cell? ⟨b1, off' + N * 11 + 5, none⟩ = some (.int .i64 o.is) ∧ w'.cell? ⟨b1, off' + N * 11 + 6, none⟩ = some (.int .i64 o.rt) ∧ w'.cell? ⟨b1, off' + N * 11 + 7, none⟩ = some (.int .i64 o.rs) ∧ w'.cell? ⟨b1, off' + N * 11 + 8, none⟩ = some (.string o.text) ∧ w'.cell? ⟨b1, off' + N * 11 + 9, none⟩ = some (.slice ag' o.gone.length cg') ∧ w'.cell? ⟨b1, off' + N * 11 + 10, none⟩ = some (.int .i64 o.site) ∧ w'.cell? ⟨b0, off + j * 11, none⟩ = some (.int .i64 o.ds) ∧ w'.cell? ⟨b0, off + j * 11 + 1, none⟩ = some (.int .i64 o.dq) ∧ w'.cell? ⟨b0, off + j * 11 + 2, none⟩ = some (.slice ad o.deps.length cd) ∧ w'.cell? ⟨b0, off + j * 11 + 3, none⟩ = some (.int .i64 o.kind) ∧ w'.cell? ⟨b0, off + j * 11 + 4, none⟩ = some (.int .i64 o.it) ∧ w'.cell? ⟨b0, off + j * 11 + 5, none⟩ = some (.int .i64 o.is) ∧ w'.cell? ⟨b0, off + j * 11 + 6, none⟩ = some (.int .i64 o.rt) ∧ w'.cell? ⟨b0, off + j * 11 + 7, none⟩ = some (.int .i64 o.rs) ∧ w'.cell? ⟨b0, off + j * 11 + 8, none⟩ = some (.string o.text) ∧ w'.cell? ⟨b0, off + j * 11 + 9, none⟩ = some (.slice ag o.gone.length cg) ∧ w'.cell? ⟨b0, off + j * 11 + 10, none⟩ = some (.int .i64 o.site) ∧ Hid (Below wr.heap.size wr w'))
                  (first
                    | (exact ⟨q0, q1, q2, q3, q4, q5, q6, q7, q8, q9, q10, p0, p1, p2, p3, p4, p5, p6, p7, p8, p9, p10, B50⟩)
                    | (go_split_ands
                       exact ⟨cell_below (by assumption) hb, cell_below (by assumption) hb, cell_below (by assumption) hb, cell_below (by assumption) hb, cell_below (by assumption) hb, cell_below (by assumption) hb, cell_below (by assumption) hb, cell_below (by assumption) hb, cell_below (by assumption) hb, cell_below (by assumption) hb, cell_below (by assumption) hb, cell_below (by assumption) hb, cell_below (by assumption) hb, cell_below (by assumption) hb, cell_below (by assumption) hb, cell_below (by assumption) hb, cell_below (by assumption) hb, cell_below (by assumption) hb, cell_below (by assumption) hb, cell_below (by assumption) hb, cell_below (by assumption) hb, cell_below (by assumption) hb, hide (bnext (unhide (by assumption)) hb)⟩)
                    | go_keep)
                  (first
                    | (go_split_ands; go_at_call 26; refine (unhide HSa _ (by assumption)).mono ?_; rintro e w' ⟨rfl, hb⟩))
                go_split_ands
                have HB2 := hide (bnext (unhide HB) (unhide (by assumption : Hid (Below wr.heap.size wr _))))
                go_wp2
                go_roundw
                case measure => simp [RowKit.intOf]; omega
                case rel => exact ⟨j + 1, by go_num, by omega, by rw [unhide HG4]; first | done | go_num, by rw [unhide HG3]; first | done | go_num, HB2⟩
              · rw [hh] at HHa
                obtain ⟨g1, g2, g3, g4⟩ := prL_at hx hh
                simp only [Bool.not_true, Bool.not_false] at g4
                rw [unhide HZ] at g1 g2
                rw [unhide HLZ] at g2
                obtain ⟨N, hN⟩ : ∃ x, (prL both true (O.take j)).length = x := ⟨_, rfl⟩
                obtain ⟨N', hN'⟩ : ∃ x, (prL both false (O.take j)).length = x := ⟨_, rfl⟩
                rw [hN] at g1 g2 g3 ⊢
                rw [hN'] at g4 ⊢
                have HG3 := hide g3
                have HG4 := hide g4
                have rz0 := (unhide Z49).below (unhide HB)
                obtain ⟨_, _, _, b1, off', ad', cd', ag', cg', e1, e2, e3, hb1, hc', rd', rg', _, _⟩ := rl_at rz0 g1
                simp only [Value.slice.injEq] at e1
                rw [← e1.1] at e3
                subst e3
                clear e1 e2 rz0 hN hN' g3 g4
                have hge : ¬ ((LZ : Int) ≤ (N : Int)) := by omega
                have hnl : (N : Int) < (LZ : Int) := by omega
                have HSa := hide (fun (W : World) (hb : Hid (Below wr.heap.size wr W)) => lsame_in o _ _ _ _ W (rd'.below (unhide hb)) (RC.below rg' (unhide hb)) (rd.below (unhide hb)) (RC.below rg (unhide hb)) s1 s2)
                unfold opA at HSa
                have HC := hide hc
                have HC' := hide hc'
                clear hc hc' rd rg rd' rg' hx g1 m0
                go_wp2_with fail
                refine (unhide HHa).mono ?_
                rintro r W50 ⟨rfl, hb50⟩
                have hc := unhide HC
                have hc' := unhide HC'
                have p0 := cell_below (hc 0 _ rfl) hb50
                have q0 := cell_below (hc' 0 _ rfl) hb50
                have p1 := cell_below (hc 1 _ rfl) hb50
                have q1 := cell_below (hc' 1 _ rfl) hb50
                have p2 := cell_below (hc 2 _ rfl) hb50
                have q2 := cell_below (hc' 2 _ rfl) hb50
                have p3 := cell_below (hc 3 _ rfl) hb50
                have q3 := cell_below (hc' 3 _ rfl) hb50
                have p4 := cell_below (hc 4 _ rfl) hb50
                have q4 := cell_below (hc' 4 _ rfl) hb50
                have p5 := cell_below (hc 5 _ rfl) hb50
                have q5 := cell_below (hc' 5 _ rfl) hb50
                have p6 := cell_below (hc 6 _ rfl) hb50
                have q6 := cell_below (hc' 6 _ rfl) hb50
                have p7 := cell_below (hc 7 _ rfl) hb50
                have q7 := cell_below (hc' 7 _ rfl) hb50
                have p8 := cell_below (hc 8 _ rfl) hb50
                have q8 := cell_below (hc' 8 _ rfl) hb50
                have p9 := cell_below (hc 9 _ rfl) hb50
                have q9 := cell_below (hc' 9 _ rfl) hb50
                have p10 := cell_below (hc 10 _ rfl) hb50
                have q10 := cell_below (hc' 10 _ rfl) hb50
                simp only [Nat.add_zero] at p0 p1 p2 p3 p4 p5 p6 p7 p8 p9 p10 q0 q1 q2 q3 q4 q5 q6 q7 q8 q9 q10
                have t0 := Nat.lt_of_lt_of_le hb0 hb50.size
                have t1 := Nat.lt_of_lt_of_le hb1 hb50.size
                have B50 : Hid (Below wr.heap.size wr W50.drew) := hide hb50.drew
                clear hc hc' HC HC' HHa hb50 hge
                go_wp2_with fail
                have hgd : decide ((LZ : Int) ≤ (N : Int)) = false := decide_eq_false (Int.not_le.mpr hnl)
                have hgq : ((LZ : Int) ≤ (N : Int)) = False := eq_false (Int.not_le.mpr hnl)
                go_region_held3 (fun w' => w'.cell? ⟨b1, off' + N * 11, none⟩ = some (.int .i64 o.ds) ∧ w'.cell? ⟨b1, off' + N * 11 + 1, none⟩ = some (.int .i64 o.dq) ∧ w'.cell? ⟨b1, off' + N * 11 + 2, none⟩ = some (.slice ad' o.deps.length cd') ∧ w'.cell? ⟨b1, off' + N * 11 + 3, none⟩ = some (.int .i64 o.kind) ∧ w'.cell? ⟨b1, off' + N * 11 + 4, none⟩ = some (.int .i64 o.it) ∧ w'.cell? ⟨b1, off' + N * 11 + 5, none⟩ = some (.int .i64 o.is) ∧ w'.cell? ⟨b1, off' + N * 11 + 6, none⟩ = some (.int .i64 o.rt) ∧ w'.cell? ⟨b1, off' + N * 11 + 7, none⟩ = some (.int .i64 o.rs) ∧ w'.cell? ⟨b1, off' + N * 11 + 8, none⟩ = some (.string o.text) ∧ w'.cell? ⟨b1, off' + N * 11 + 9, none⟩ = some (.slice ag' o.gone.length cg') ∧ w'.cell? ⟨b1, off' + N * 11 + 10, none⟩ = some (.int .i64 o.site) ∧ w'.cell? ⟨b0, off + j * 11, none⟩ = some (.int .i64 o.ds) ∧ w'.cell? ⟨b0, off + j * 11 + 1, none⟩ = some (.int .i64 o.dq) ∧ w'.cell? ⟨b0, off + j * 11 + 2, none⟩ = some (.slice ad o.deps.length cd) ∧ w'.cell? ⟨b0, off + j * 11 + 3, none⟩ = some (.int .i64 o.kind) ∧ w'.cell? ⟨b0, off + j * 11 + 4, none⟩ = some (.int .i64 o.it) ∧ w'.cell? ⟨b0, off + j * 11 + 5, none⟩ = some (.int .i64 o.is) ∧ w'.cell? ⟨b0, off + j * 11 + 6, none⟩ = some (.int .i64 o.rt) ∧ w'.cell? ⟨b0, off + j * 11 + 7, none⟩ = some (.int .i64 o.rs) ∧ w'.cell? ⟨b0, off + j * 11 + 8, none⟩ = some (.string o.text) ∧ w'.cell? ⟨b0, off + j * 11 + 9, none⟩ = some (.slice ag o.gone.length cg) ∧ w'.cell? ⟨b0, off + j * 11 + 10, none⟩ = some (.int .i64 o.site) ∧ Hid (Below wr.heap.size wr w'))
                  (first
                    | (exact ⟨q0, q1, q2, q3, q4, q5, q6, q7, q8, q9, q10, p0, p1, p2, p3, p4, p5, p6, p7, p8, p9, p10, B50⟩)
                    | (go_split_ands
                       exact ⟨cell_below (by assumption) hb, cell_below (by assumption) hb, cell_below (by assumption) hb, cell_below (by assumption) hb, cell_below (by assumption) hb, cell_below (by assumption) hb, cell_below (by assumption) hb, cell_below (by assumption) hb, cell_below (by assumption) hb, cell_below (by assumption) hb, cell_below (by assumption) hb, cell_below (by assumption) hb, cell_below (by assumption) hb, cell_below (by assumption) hb, cell_below (by assumption) hb, cell_below (by assumption) hb, cell_below (by assumption) hb, cell_below (by assumption) hb, cell_below (by assumption) hb, cell_below (by assumption) hb, cell_below (by assumption) hb, cell_below (by assumption) hb, hide (bnext (unhide (by assumption)) hb)⟩)
                    | go_keep)
                  (first
                    | (go_split_ands; go_at_call 26; refine (unhide HSa _ (by assumption)).mono ?_; rintro e w' ⟨rfl, hb⟩))
                go_split_ands
                have HB2 := hide (bnext (unhide HB) (unhide (by assumption : Hid (Below wr.heap.size wr _))))
                go_wp2
                go_roundw
                case measure => simp [RowKit.intOf]; omega
                case rel => exact ⟨j + 1, by go_num, by omega, by rw [unhide HG3]; first | done | go_num, by rw [unhide HG4]; first | done | go_num, HB2⟩
            · have hlt2' : ¬ (j : Int) < (LW : Int) := by omega
              go_wp2_with fail
              refine (unhide HK _).mono ?_
              rintro r W51 ⟨rfl, hb51⟩
              go_wp2
              go_ret
              exact ⟨rfl, bnext (bnext (unhide BW) (unhide HB)) hb51⟩

theorem own : ownKnob Try.prog.godebug = none := by kernel_rfl
theorem laidOut2 : laidOutB Try.prog = true := by kernel_rfl

set_option maxRecDepth 100000 in
theorem lifted (os : Os) (started : os.Started) (H : Type) (enc : TypeId × Value → H) :
    ReturnsInHanded {} Try.checked os 5 .any (Rows.logCutsSpec.pre6 enc Try.prog Try.f5 Rows.logCutsRow.domain false) (Rows.logCutsSpec.post enc Try.prog Try.f5 false true false false) := by
  refine returnsInHanded_of_change (C := Try.checked) own started (by kernel_rfl) Try.func5
    (ChangeSpec.witness6 (enc := enc) (C := Try.checked) false ⟨#[], #[.slice none 0 0, .slice none 0 0, .slice none 0 0, .slice none 0 0], []⟩ 8 (by kernel_rfl) (by kernel_rfl) (by kernel_rfl) (by kernel_rfl)) ?_
  intro W base args ds gs before hval0 hW hcnd _
  have hval : ∀ (j : Nat) t v, Try.f5.params[j]? = some t → args[j]? = some v → Value.okWide Try.prog W .any base t v := hval0
  have hW' := hW
  obtain ⟨p, q, hA0, hV, rfl, hfz, hnd⟩ := hW
  have hA : DataW.TrodAll enc Try.prog W 0 (fun _ => true) true Try.f5.params.toList args.toList ds p := hA0
  rw [Try.params5] at hA hval
  obtain ⟨v0, vs0, d0, ds0, p0, q0, hargs, rfl, rfl, h0, r0⟩ := trodAll_cons hA
  obtain ⟨v1, vs1, d1, ds1, p1, q1, rfl, rfl, rfl, h1, r1⟩ := trodAll_cons r0
  obtain ⟨v2, vs2, d2, ds2, p2, q2, rfl, rfl, rfl, h2, r2⟩ := trodAll_cons r1
  obtain ⟨v3, vs3, d3, ds3, p3, q3, rfl, rfl, rfl, h3, r3⟩ := trodAll_cons r2
  obtain ⟨rfl, rfl, rfl⟩ := trodAll_nil r3
  obtain rfl : args = #[v0, v1, v2, v3] := by cases args; simp_all
  obtain ⟨rfl, rfl⟩ := trodVars_none hV
  obtain ⟨a0, len0, cap0, rfl⟩ := okWide_slice Try.underlying25 (hval 0 25 v0 rfl rfl)
  have k0 := h0
  have lt0 : ∀ x ∈ p0, x.block < W.heap.size := by obtain ⟨m, hm⟩ := k0; exact DataW.trod_lt m _ _ _ hm
  obtain ⟨z0, w0⟩ : ∃ l : List (Int × Int), RI W (.slice a0 len0 cap0) l ∧ l.length = len0 ∧ len0 ≤ maxLen ∧ ∀ e ∈ l, idIn e := by
    obtain ⟨fuel, hf⟩ := h0
    simp only [Value.cells] at hf
    exact open_dots hf
  obtain ⟨a1, len1, cap1, rfl⟩ := okWide_slice Try.underlying34 (hval 1 34 v1 rfl rfl)
  have k1 := h1
  have lt1 : ∀ x ∈ p1, x.block < W.heap.size := by obtain ⟨m, hm⟩ := k1; exact DataW.trod_lt m _ _ _ hm
  obtain ⟨z1, w1⟩ : ∃ l : List Stp, RC W (.slice a1 len1 cap1) l.length (flat encS l) ∧ l.length = len1 ∧ len1 ≤ maxLen ∧ ∀ e ∈ l, StW W e := by
    obtain ⟨fuel, hf⟩ := h1
    simp only [Value.cells] at hf
    exact open_steps hf
  obtain ⟨a2, len2, cap2, rfl⟩ := okWide_slice Try.underlying25 (hval 2 25 v2 rfl rfl)
  have k2 := h2
  have lt2 : ∀ x ∈ p2, x.block < W.heap.size := by obtain ⟨m, hm⟩ := k2; exact DataW.trod_lt m _ _ _ hm
  obtain ⟨z2, w2⟩ : ∃ l : List (Int × Int), RI W (.slice a2 len2 cap2) l ∧ l.length = len2 ∧ len2 ≤ maxLen ∧ ∀ e ∈ l, idIn e := by
    obtain ⟨fuel, hf⟩ := h2
    simp only [Value.cells] at hf
    exact open_dots hf
  obtain ⟨a3, len3, cap3, rfl⟩ := okWide_slice Try.underlying25 (hval 3 25 v3 rfl rfl)
  have k3 := h3
  have lt3 : ∀ x ∈ p3, x.block < W.heap.size := by obtain ⟨m, hm⟩ := k3; exact DataW.trod_lt m _ _ _ hm
  obtain ⟨z3, w3⟩ : ∃ l : List (Int × Int), RI W (.slice a3 len3 cap3) l ∧ l.length = len3 ∧ len3 ≤ maxLen ∧ ∀ e ∈ l, idIn e := by
    obtain ⟨fuel, hf⟩ := h3
    simp only [Value.cells] at hf
    exact open_dots hf
  clear hA0 hval0
  refine (walk a0 len0 cap0 z0 a1 len1 cap1 z1 a2 len2 cap2 z2 a3 len3 cap3 z3 W w0 w1 w2 w3).mono fun e W' ⟨he, bel⟩ => ?_
  subst he
  exact ⟨_, rfl, _, _, _, [], _, [], hW', trodAll_mk1 (shut_bool Try.underlying4 _), (trodAll_cons_mk (Below.trod laidOut2 (by kernel_rfl) (of_decide_eq_true (by kernel_rfl)) k0 bel lt0) (trodAll_cons_mk (Below.trod laidOut2 (by kernel_rfl) (of_decide_eq_true (by kernel_rfl)) k1 bel lt1) (trodAll_cons_mk (Below.trod laidOut2 (by kernel_rfl) (of_decide_eq_true (by kernel_rfl)) k2 bel lt2) (trodAll_cons_mk (Below.trod laidOut2 (by kernel_rfl) (of_decide_eq_true (by kernel_rfl)) k3 bel lt3) trodAll_mk0)))), rfl, bel.frame _, fun h => by cases h⟩

theorem over : Rows.logCutsRow.holds Try.pinned (OpenSpec.ofChange Rows.logCutsSpec) :=
  OpenClaim.holds_of_wide 5 Try.f5 rfl rfl rfl rfl rfl rfl rfl ⟨rfl, rfl, rfl, rfl, rfl⟩ rfl rfl rfl rfl rfl (by kernel_rfl) Try.func5 (by kernel_rfl)
    (of_decide_eq_true (by kernel_rfl)) (by unfold Func.isWrapper; first | (rw [if_pos (by decide +kernel)]; kernel_rfl) | (rw [if_neg (by decide +kernel)]; exact ⟨rfl, rfl⟩))
    (fun os started H enc _ => lifted os started H enc)

end LLogCuts

theorem logCuts_holds : Rows.LogCutsSaid := LLogCuts.over

end Go.Proofs.Ytgfkpgogfahdaaa
