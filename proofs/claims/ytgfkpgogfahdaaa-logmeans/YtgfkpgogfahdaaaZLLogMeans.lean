/-
  Chapter 12's law LogMeans returns true for every base, every script and every vector, and leaves its arguments as they were; no condition.
-/
import Derived.Test.YtgfkpgogfahdaaaRows
import Derived.WalkKit
import Derived.ProofKit
import Derived.OpenShut
import Derived.ShutString
import Derived.ChangeOld
import Derived.Below
import Derived.Test.YtgfkpgogfahdaaaZLM4
import Derived.Test.YtgfkpgogfahdaaaZQ5
set_option linter.unusedVariables false
set_option linter.unusedSimpArgs false
namespace Go.Proofs.Ytgfkpgogfahdaaa
namespace LLogMeans
open Go.ChangeShapes Go.WideShapes Go.ChangeAt Go.RowKit Go.Lib
open Go.ChangeMaps (open_string shut_string)

set_option maxRecDepth 100000 in
set_option maxHeartbeats 16000000 in
theorem walk (a0 : Option Addr) (len0 cap0 : Nat) (bs : List (Int × Int)) (a1 : Option Addr) (len1 cap1 : Nat) (ss : List Stp) (a2 : Option Addr) (len2 cap2 : Nat) (hs : List (Int × Int)) (w : World) (w0 : RI w (.slice a0 len0 cap0) bs ∧ bs.length = len0 ∧ len0 ≤ maxLen ∧ ∀ e ∈ bs, idIn e) (w1 : RC w (.slice a1 len1 cap1) ss.length (flat encS ss) ∧ ss.length = len1 ∧ len1 ≤ maxLen ∧ ∀ e ∈ ss, StW w e) (w2 : RI w (.slice a2 len2 cap2) hs ∧ hs.length = len2 ∧ len2 ≤ maxLen ∧ ∀ e ∈ hs, idIn e) :
    Calls Try.prog 4 #[.slice a0 len0 cap0, .slice a1 len1 cap1, .slice a2 len2 cap2] w fun e W => e = .returned (.bool true) ∧ Below w.heap.size w W := by
  obtain ⟨hr0, rfl, hm0, _⟩ := w0
  obtain ⟨hr1, hl1, hm1, hst⟩ := w1
  obtain ⟨hr2, rfl, hm2, _⟩ := w2
  unfold maxLen at hm0 hm1 hm2
  have HMu := hide (much_in a1 len1 cap1 ss a0 bs.length cap0 w hr1 hl1 (fun s hs => (hst s hs).f) hm1 hm0)
  have HK := hide (fun W => known_in W)
  obtain ⟨MU, hMU⟩ : ∃ m, muchB ss bs.length = m := ⟨_, rfl⟩
  rw [hMU] at HMu
  cases MU with
  | true =>
    clear hMU hr0 hr1 hr2 hst
    go_enter Try.func4, Try.ntmps4
    go_wp2_with fail
    refine (unhide HMu).mono ?_
    rintro r W1 ⟨rfl, hb1⟩
    have B1 := hide hb1
    clear hb1 HMu
    go_wp2_with fail
    refine (unhide HK _).mono ?_
    rintro r W2 ⟨rfl, hb2⟩
    go_wp2
    go_ret
    exact ⟨rfl, bnext (unhide B1) hb2⟩
  | false =>
  have hmu := hMU
  unfold muchB at hmu
  rw [Bool.or_eq_false_iff, Bool.or_eq_false_iff] at hmu
  obtain ⟨hu1, hu2, hu3⟩ := hmu
  have hu1' : ss.length ≤ 200 := by simpa using hu1
  have hu2' : bs.length ≤ 60000 := by simpa using hu2
  have HSM := hide (muL_small ss 0 hu3)
  clear hMU hu1 hu2 hu3
  by_cases h60 : 60 < len1
  · have h60' : (60 : Int) < (len1 : Int) := by omega
    clear hr0 hr1 hr2 hst
    go_enter Try.func4, Try.ntmps4
    go_wp2_with fail
    refine (unhide HMu).mono ?_
    rintro r W1 ⟨rfl, hb1⟩
    have B1 := hide hb1
    clear hb1 HMu
    go_wp2_with fail
    refine (unhide HK _).mono ?_
    rintro r W2 ⟨rfl, hb2⟩
    go_wp2
    go_ret
    exact ⟨rfl, bnext (unhide B1) hb2⟩
  have h60' : ¬ (60 : Int) < (len1 : Int) := by omega
  by_cases hmo : 60000 < hs.length
  · have hmo' : (60000 : Int) < (hs.length : Int) := by omega
    clear hr0 hr1 hr2 hst
    go_enter Try.func4, Try.ntmps4
    go_wp2_with fail
    refine (unhide HMu).mono ?_
    rintro r W1 ⟨rfl, hb1⟩
    have B1 := hide hb1
    clear hb1 HMu
    go_wp2_with fail
    refine (unhide HK _).mono ?_
    rintro r W2 ⟨rfl, hb2⟩
    go_wp2
    go_ret
    exact ⟨rfl, bnext (unhide B1) hb2⟩
  have hmo' : ¬ (60000 : Int) < (hs.length : Int) := by omega
  have HNe := hide (fun (W : World) (hb : Below w.heap.size w W) => New_in _ bs W (hr0.below hb) (by omega))
  unfold NewA at HNe
  have HRH := hide hr2
  have HRS := hide hr1
  have HST := hide hst
  have HL1 := hide hl1
  clear hr0 hr1 hr2 hst
  by_cases hcb : chk bs = 0
  rotate_left
  · have hcb' : (chk bs == 0) = false := by simpa using hcb
    go_enter Try.func4, Try.ntmps4
    go_wp2_with fail
    refine (unhide HMu).mono ?_
    rintro r W1 ⟨rfl, hb1⟩
    have B1 := hide hb1
    have HN := hide (unhide HNe W1 hb1)
    clear hb1 HMu HNe HRH HRS HST
    go_wp2_with fail
    refine (unhide HN).mono ?_
    rintro r W2 (⟨_, rfl, hb2⟩ | ⟨h, _⟩)
    rotate_left
    · exact absurd h hcb
    have B2 := hide (bnext (unhide B1) hb2)
    clear hb2 HN
    go_wp2_with fail
    refine (unhide HK _).mono ?_
    rintro r W3 ⟨rfl, hb3⟩
    go_wp2
    go_ret
    exact ⟨rfl, bnext (unhide B2) hb3⟩
  go_enter Try.func4, Try.ntmps4
  go_wp2_with fail
  refine (unhide HMu).mono ?_
  rintro r W1 ⟨rfl, hb1⟩
  have B1 := hide hb1
  have HN := hide (unhide HNe W1 hb1)
  clear hb1 HMu HNe
  go_wp2_with fail
  refine (unhide HN).mono ?_
  rintro r W2 (⟨h, _⟩ | ⟨_, b, rfl, hll, hb2⟩)
  · exact absurd hcb h
  have K2 := hide (KS.new hll hb2 (unhide B1))
  have S2 := hide (ST.new hcb)
  clear hb2 HN hll B1 hcb
  go_wp2
  go_loopw [9] (fun iv wr => ∃ (i : Nat) (B H : List (Int × Int)) (O : List Opn), iv = .int .i64 (i : Nat) ∧ i ≤ len1 ∧ O.length ≤ i ∧ Hid (KS w wr b B H O) ∧ Hid (ST B H O)) (fun iv _ => len1 - (RowKit.intOf iv).toNat)
  case atStart => exact ⟨0, _, _, _, rfl, by omega, by simp, K2, S2⟩
  case round =>
    obtain ⟨i, B, H, O, rfl, hi, hO, K0, S0⟩ := hrel
    clear K2 S2
    by_cases hlt : i < len1
    · have hlt' : (i : Int) < (len1 : Int) := by omega
      have hls : i < ss.length := by rw [unhide HL1]; exact hlt
      obtain ⟨s, hx⟩ : ∃ s, ss[i]? = some s := ⟨_, List.getElem?_eq_getElem hls⟩
      obtain ⟨b0, off, rfl, hb0, hcell⟩ := rs_at ((unhide HRS).below (unhide K0).bel) hx
      have hsw := unhide HST s (List.mem_of_getElem? hx)
      obtain ⟨m3, m1, m2, m4⟩ := unhide HSM s (List.mem_of_getElem? hx)
      have HDo := hide (do_in (unhide K0) (by omega) s hsw m1 m2 m3 m4)
      have S1 := hide ((unhide S0).do s)
      have hO1 := do_len s H O
      generalize doB s B H = B1 at *
      generalize doO s H O = O1 at *
      generalize doH s H = H1 at *
      obtain ⟨⟨ad, cd, hd⟩, ⟨ag, cg, hg⟩, ⟨av, cv, hv⟩⟩ := hsw.f
      obtain ⟨kind, o, vl, vd, vg, vv⟩ := s
      simp only at hd hg hv
      subst hd hg hv
      unfold stA at HDo
      simp only at HDo
      have q0 := hcell 0 _ rfl
      have q1 := hcell 1 _ rfl
      have q2 := hcell 2 _ rfl
      have q3 := hcell 3 _ rfl
      have q4 := hcell 4 _ rfl
      have q5 := hcell 5 _ rfl
      have q6 := hcell 6 _ rfl
      have q7 := hcell 7 _ rfl
      have q8 := hcell 8 _ rfl
      have q9 := hcell 9 _ rfl
      have q10 := hcell 10 _ rfl
      have q11 := hcell 11 _ rfl
      have q12 := hcell 12 _ rfl
      simp only [Nat.add_zero] at q0 q1 q2 q3 q4 q5 q6 q7 q8 q9 q10 q11 q12
      clear hcell hx hsw m1 m2 m3 m4 S0 K0 HRS HST HSM
      go_wp2_with fail
      refine (unhide HDo).mono ?_
      rintro r W1 ⟨rfl, hk1⟩
      have lB := chk_len (unhide S1).nb
      have lH := chk_len (unhide S1).nh
      have hcov := (unhide S1).cov
      have hsum := (unhide S1).sq.sum
      have hbb := (unhide S1).byd_base
      have hbh := (unhide S1).byd_have
      have hsi := sum_in B1
      have HSQ := hide (unhide S1).sq
      have NB := hide (unhide S1).nb
      have NH := hide (unhide S1).nh
      have K1 := hide hk1
      have HVe := hide (KVector_in hk1)
      clear HDo hk1 q0 q1 q2 q3 q4 q5 q6 q7 q8 q9 q10 q11 q12
      go_wp2_with fail
      refine (unhide HVe).mono ?_
      rintro r W2 ⟨av2, cv2, rfl, rv2, hb2⟩
      have K2 := hide ((unhide K1).below hb2)
      have HBa := hide (KBase_in (unhide K2))
      replace rv2 := hide rv2
      clear HVe K1 hb2
      go_wp2_with fail
      refine (unhide HBa).mono ?_
      rintro r W3 ⟨ab3, cb3, rfl, rb3, hb3⟩
      have K3 := hide ((unhide K2).below hb3)
      have rv3 := hide ((unhide rv2).below hb3)
      have HCo := hide (refCovers_in _ _ H1 B1 W3 (unhide rv3) rb3 (by omega) (by omega))
      rw [hcov] at HCo
      replace rb3 := hide rb3
      clear HBa K2 rv2 hb3 hcov
      go_wp2_with fail
      refine (unhide HCo).mono ?_
      rintro r W4 ⟨rfl, hb4⟩
      have K4 := hide ((unhide K3).below hb4)
      have rv4 := hide ((unhide rv3).below hb4)
      have rb4 := hide ((unhide rb3).below hb4)
      have HSv := hide (refSum_in _ H1 W4 (unhide rv4) (by omega))
      rw [hsum] at HSv
      clear HCo K3 rv3 rb3 hb4
      go_wp2_with fail
      refine (unhide HSv).mono ?_
      rintro r W5 ⟨rfl, hb5⟩
      have K5 := hide ((unhide K4).below hb5)
      have rv5 := hide ((unhide rv4).below hb5)
      have rb5 := hide ((unhide rb4).below hb5)
      have HSb := hide (refSum_in _ B1 W5 (unhide rb5) (by omega))
      obtain ⟨SB, hSB⟩ : ∃ x, sum (sy B1) = x := ⟨_, rfl⟩
      rw [hSB] at HSb hsi ⊢
      have hwx : wrap64 (SB + (O1.length : Int)) = SB + (O1.length : Int) := IntWalk.wrap64_in _ (by omega)
      have hwy : IntKind.i64.wrap (SB + (O1.length : Int)) = SB + (O1.length : Int) := IntWalk.i64_in _ (by omega)
      clear HSv K4 rv4 rb4 hb5 hsum hSB
      go_wp2_with fail
      refine (unhide HSb).mono ?_
      rintro r W6 ⟨rfl, hb6⟩
      have K6 := hide ((unhide K5).below hb6)
      have rv6 := hide ((unhide rv5).below hb6)
      have rb6 := hide ((unhide rb5).below hb6)
      have HLe := hide (KLen_in (unhide K6))
      clear HSb K5 rv5 rb5 hb6
      go_wp2_with fail
      refine (unhide HLe).mono ?_
      rintro r W7 ⟨rfl, rfl⟩
      have HLb := hide (KLacks_in (unhide K6) (by omega) _ _ _ B1 (unhide rb6) (by omega))
      rw [hbb] at HLb
      clear HLe
      go_wp2_with fail
      refine (unhide HLb).mono ?_
      rintro r W7 ⟨rfl, hb7⟩
      have K7 := hide ((unhide K6).below hb7)
      have rv7 := hide ((unhide rv6).below hb7)
      have rb7 := hide ((unhide rb6).below hb7)
      have HLe := hide (KLen_in (unhide K7))
      clear HLb K6 rv6 rb6 hb7
      go_wp2_with fail
      refine (unhide HLe).mono ?_
      rintro r W8 ⟨rfl, rfl⟩
      have HLv := hide (KLacks_in (unhide K7) (by omega) _ _ _ H1 (unhide rv7) (by omega))
      rw [hbh] at HLv
      clear HLe
      go_wp2_with fail
      refine (unhide HLv).mono ?_
      rintro r W8 ⟨rfl, hb8⟩
      have K8 := hide ((unhide K7).below hb8)
      have rv8 := hide ((unhide rv7).below hb8)
      have rb8 := hide ((unhide rb7).below hb8)
      have HBe := hide (KBeyond_in (unhide K8) (by omega) _ _ _ B1 (unhide rb8) (by omega))
      rw [hbb] at HBe
      clear HLv K7 rv7 rb7 hb8
      go_wp2_with fail
      refine (unhide HBe).mono ?_
      rintro r W9 ⟨rfl, hit, hb9⟩
      have K9 := hide ((unhide K8).below hb9)
      have rv9 := hide ((unhide rv8).below hb9)
      have rb9 := hide ((unhide rb8).below hb9)
      have HRe := hide (Krest_in hit 201 (by omega))
      unfold itV at HRe ⊢
      clear HBe K8 rv8 rb8 hb9 hit
      go_wp2_with fail
      refine (unhide HRe).mono ?_
      rintro r W10 ⟨ar, cr, rfl, hrl, hb10⟩
      have K10 := hide ((unhide K9).below hb10)
      have HFo := hide (lfollows_in _ _ _ O1 B1 H1 hrl (by omega) ((unhide rb9).below hb10) ((unhide rv9).below hb10) (unhide NB) (unhide NH) (unhide HSQ))
      clear HRe K9 rv9 rb9 hb10 hrl HSQ NB NH
      go_wp2_with fail
      refine (unhide HFo).mono ?_
      rintro r W11 ⟨rfl, hb11⟩
      have K11 := hide ((unhide K10).below hb11)
      clear HFo K10 hb11
      go_wp2
      go_roundw
      case measure => simp [RowKit.intOf]; omega
      case rel => exact ⟨i + 1, B1, H1, O1, by go_num, by omega, by omega, K11, S1⟩
    · have hlt' : ¬ (i : Int) < (len1 : Int) := by omega
      have lB := chk_len (unhide S0).nb
      have lH := chk_len (unhide S0).nh
      have rh0 := hide ((unhide HRH).below (unhide K0).bel)
      have HCk := hide (refCheck_in _ hs wr (unhide rh0) (by omega))
      clear HRH HRS HST HSM
      by_cases hck : chk hs = 0
      rotate_left
      · have hbn : bynd hs O = [] := by unfold bynd; rw [if_neg hck]
        obtain ⟨ck, hck0⟩ : ∃ k, chk hs = k := ⟨_, rfl⟩
        rw [hck0] at HCk hck
        have hck' : (ck == 0) = false := by simpa using hck
        clear hck0
        go_wp2_with fail
        refine (unhide HCk).mono ?_
        rintro r W1 ⟨rfl, hb1⟩
        have K1 := hide ((unhide K0).below hb1)
        have rh1 := hide ((unhide rh0).below hb1)
        have HBe := hide (KBeyond_in (unhide K1) (by omega) _ _ _ hs (unhide rh1) (by omega))
        rw [hbn] at HBe
        clear HCk K0 rh0 hb1
        go_wp2_with fail
        refine (unhide HBe).mono ?_
        rintro r W2 ⟨rfl, hit, hb2⟩
        have K2 := hide ((unhide K1).below hb2)
        have rh2 := hide ((unhide rh1).below hb2)
        have HRe := hide (Krest_in hit 2 (by simp))
        unfold itV at HRe ⊢
        clear HBe K1 rh1 hb2 hit
        go_wp2_with fail
        refine (unhide HRe).mono ?_
        rintro r W3 ⟨ar, cr, rfl, hrl, hb3⟩
        have K3 := hide ((unhide K2).below hb3)
        have rh3 := hide ((unhide rh2).below hb3)
        have HLa := hide (KLacks_in (unhide K3) (by omega) _ _ _ hs (unhide rh3) (by omega))
        rw [hbn] at HLa
        clear HRe K2 rh2 hb3 hrl
        simp only [List.length_nil] at HLa ⊢
        go_wp2_with fail
        refine (unhide HLa).mono ?_
        rintro r W4 ⟨rfl, hb4⟩
        have B4 := hide (bnext (unhide K3).bel hb4)
        clear HLa K3 rh3 hb4
        go_wp2_with fail
        refine (unhide HK _).mono ?_
        rintro r W5 ⟨rfl, hb5⟩
        go_wp2
        go_ret
        exact ⟨rfl, bnext (unhide B4) hb5⟩
      · rw [hck] at HCk
        obtain ⟨both, e1⟩ : ∃ x, vec (mrg (sy hs) (sy B)) = x := ⟨_, rfl⟩
        obtain ⟨to, e2⟩ : ∃ x, vec (mrg (sy both) (sy H)) = x := ⟨_, rfl⟩
        obtain ⟨f1, f2, f3⟩ := (unhide S0).beyond hck e1 e2
        have lbo := chk_len f1
        have lto := chk_len f2
        have hby := bynd_len hs O
        obtain ⟨BY, hBY⟩ : ∃ x, bynd hs O = x := ⟨_, rfl⟩
        rw [hBY] at f3 hby
        have F1 := hide f1
        have F2 := hide f2
        have F3 := hide f3
        clear f1 f2 f3
        go_wp2_with fail
        refine (unhide HCk).mono ?_
        rintro r W1 ⟨rfl, hb1⟩
        have K1 := hide ((unhide K0).below hb1)
        have rh1 := hide ((unhide rh0).below hb1)
        have HBa := hide (KBase_in (unhide K1))
        clear HCk K0 rh0 hb1
        go_wp2_with fail
        refine (unhide HBa).mono ?_
        rintro r W2 ⟨ab, cb, rfl, rb2, hb2⟩
        have K2 := hide ((unhide K1).below hb2)
        have rh2 := hide ((unhide rh1).below hb2)
        have HMe := hide (refMerge_in _ _ hs B W2 (unhide rh2) rb2 (by omega) (by omega))
        rw [e1] at HMe
        clear HBa K1 rh1 hb2 rb2
        go_wp2_with fail
        refine (unhide HMe).mono ?_
        rintro r W3 ⟨v3, rfl, ho3, hb3⟩
        obtain ⟨a3, c3, rfl⟩ := ho3.form
        have K3 := hide ((unhide K2).below hb3)
        have rh3 := hide ((unhide rh2).below hb3)
        have rm3 := hide ho3.row
        have HBe := hide (KBeyond_in (unhide K3) (by omega) _ _ _ hs (unhide rh3) (by omega))
        rw [hBY] at HBe
        clear HMe K2 rh2 hb3 ho3
        go_wp2_with fail
        refine (unhide HBe).mono ?_
        rintro r W4 ⟨rfl, hit, hb4⟩
        have K4 := hide ((unhide K3).below hb4)
        have rh4 := hide ((unhide rh3).below hb4)
        have rm4 := hide ((unhide rm3).below hb4)
        have HRe := hide (Krest_in hit 201 (by omega))
        unfold itV at HRe ⊢
        clear HBe K3 rh3 rm3 hb4 hit
        go_wp2_with fail
        refine (unhide HRe).mono ?_
        rintro r W5 ⟨ar, cr, rfl, hrl, hb5⟩
        have K5 := hide ((unhide K4).below hb5)
        have rh5 := hide ((unhide rh4).below hb5)
        have rm5 := hide ((unhide rm4).below hb5)
        have rl5 := hide hrl
        have HLa := hide (KLacks_in (unhide K5) (by omega) _ _ _ hs (unhide rh5) (by omega))
        rw [hBY] at HLa
        clear HRe K4 rh4 rm4 hb5 hrl
        go_wp2_with fail
        refine (unhide HLa).mono ?_
        rintro r W6 ⟨rfl, hb6⟩
        have K6 := hide ((unhide K5).below hb6)
        have rm6 := hide ((unhide rm5).below hb6)
        have rl6 := hide ((unhide rl5).kp (N := fun _ => False) (Kp.of_below hb6) (fun _ h => h.elim))
        have HVe := hide (KVector_in (unhide K6))
        clear HLa K5 rh5 rm5 hb6 rl5
        go_wp2_with fail
        refine (unhide HVe).mono ?_
        rintro r W7 ⟨a7, c7, rfl, rv7, hb7⟩
        have K7 := hide ((unhide K6).below hb7)
        have rm7 := hide ((unhide rm6).below hb7)
        have rl7 := hide ((unhide rl6).kp (N := fun _ => False) (Kp.of_below hb7) (fun _ h => h.elim))
        have HM2 := hide (refMerge_in _ _ both H W7 (unhide rm7) rv7 (by omega) (by omega))
        rw [e2] at HM2
        clear HVe K6 rm6 hb7 rl6 rv7
        go_wp2_with fail
        refine (unhide HM2).mono ?_
        rintro r W8 ⟨v8, rfl, ho8, hb8⟩
        obtain ⟨a8, c8, rfl⟩ := ho8.form
        have K8 := hide ((unhide K7).below hb8)
        have HFo := hide (lfollows_in _ _ _ BY both to ((unhide rl7).kp (N := fun _ => False) (Kp.of_below hb8) (fun _ h => h.elim)) (by omega) ((unhide rm7).below hb8) ho8.row (unhide F1) (unhide F2) (unhide F3))
        clear HM2 K7 rm7 hb8 rl7 ho8
        go_wp2_with fail
        refine (unhide HFo).mono ?_
        rintro r W9 ⟨rfl, hb9⟩
        have B9 := hide (bnext (unhide K8).bel hb9)
        clear HFo K8 hb9
        go_wp2_with fail
        refine (unhide HK _).mono ?_
        rintro r W10 ⟨rfl, hb10⟩
        go_wp2
        go_ret
        exact ⟨rfl, bnext (unhide B9) hb10⟩

theorem own : ownKnob Try.prog.godebug = none := by kernel_rfl
theorem laidOut2 : laidOutB Try.prog = true := by kernel_rfl

set_option maxRecDepth 100000 in
theorem lifted (os : Os) (started : os.Started) (H : Type) (enc : TypeId × Value → H) :
    ReturnsInHanded {} Try.checked os 4 .any (Rows.logMeansSpec.pre6 enc Try.prog Try.f4 Rows.logMeansRow.domain false) (Rows.logMeansSpec.post enc Try.prog Try.f4 false true false false) := by
  refine returnsInHanded_of_change (C := Try.checked) own started (by kernel_rfl) Try.func4
    (ChangeSpec.witness6 (enc := enc) (C := Try.checked) false ⟨#[], #[.slice none 0 0, .slice none 0 0, .slice none 0 0], []⟩ 8 (by kernel_rfl) (by kernel_rfl) (by kernel_rfl) (by kernel_rfl)) ?_
  intro W base args ds gs before hval0 hW hcnd _
  have hval : ∀ (j : Nat) t v, Try.f4.params[j]? = some t → args[j]? = some v → Value.okWide Try.prog W .any base t v := hval0
  have hW' := hW
  obtain ⟨p, q, hA0, hV, rfl, hfz, hnd⟩ := hW
  have hA : DataW.TrodAll enc Try.prog W 0 (fun _ => true) true Try.f4.params.toList args.toList ds p := hA0
  rw [Try.params4] at hA hval
  obtain ⟨v0, vs0, d0, ds0, p0, q0, hargs, rfl, rfl, h0, r0⟩ := trodAll_cons hA
  obtain ⟨v1, vs1, d1, ds1, p1, q1, rfl, rfl, rfl, h1, r1⟩ := trodAll_cons r0
  obtain ⟨v2, vs2, d2, ds2, p2, q2, rfl, rfl, rfl, h2, r2⟩ := trodAll_cons r1
  obtain ⟨rfl, rfl, rfl⟩ := trodAll_nil r2
  obtain rfl : args = #[v0, v1, v2] := by cases args; simp_all
  obtain ⟨rfl, rfl⟩ := trodVars_none hV
  obtain ⟨a0, len0, cap0, rfl⟩ := okWide_slice Try.underlying25 (hval 0 25 v0 rfl rfl)
  have k0 := h0
  have lt0 : ∀ x ∈ p0, x.block < W.heap.size := by obtain ⟨m, hm⟩ := k0; exact DataW.trod_lt m _ _ _ hm
  obtain ⟨z0, w0⟩ : ∃ l : List (Int × Int), RI W (.slice a0 len0 cap0) l ∧ l.length = len0 ∧ len0 ≤ maxLen ∧ ∀ e ∈ l, idIn e := by
    obtain ⟨fuel, hf⟩ := h0
    simp only [Value.cells] at hf
    exact open_dots hf
  obtain ⟨a1, len1, cap1, rfl⟩ := okWide_slice Try.underlying34 (hval 1 34 v1 rfl rfl)
  have k1 := h1
  have lt1 : ∀ x ∈ p1, x.block < W.heap.size := by obtain ⟨m, hm⟩ := k1; exact DataW.trod_lt m _ _ _ hm
  obtain ⟨z1, w1⟩ : ∃ l : List Stp, RC W (.slice a1 len1 cap1) l.length (flat encS l) ∧ l.length = len1 ∧ len1 ≤ maxLen ∧ ∀ e ∈ l, StW W e := by
    obtain ⟨fuel, hf⟩ := h1
    simp only [Value.cells] at hf
    exact open_steps hf
  obtain ⟨a2, len2, cap2, rfl⟩ := okWide_slice Try.underlying25 (hval 2 25 v2 rfl rfl)
  have k2 := h2
  have lt2 : ∀ x ∈ p2, x.block < W.heap.size := by obtain ⟨m, hm⟩ := k2; exact DataW.trod_lt m _ _ _ hm
  obtain ⟨z2, w2⟩ : ∃ l : List (Int × Int), RI W (.slice a2 len2 cap2) l ∧ l.length = len2 ∧ len2 ≤ maxLen ∧ ∀ e ∈ l, idIn e := by
    obtain ⟨fuel, hf⟩ := h2
    simp only [Value.cells] at hf
    exact open_dots hf
  clear hA0 hval0
  refine (walk a0 len0 cap0 z0 a1 len1 cap1 z1 a2 len2 cap2 z2 W w0 w1 w2).mono fun e W' ⟨he, bel⟩ => ?_
  subst he
  exact ⟨_, rfl, _, _, _, [], _, [], hW', trodAll_mk1 (shut_bool Try.underlying4 _), (trodAll_cons_mk (Below.trod laidOut2 (by kernel_rfl) (of_decide_eq_true (by kernel_rfl)) k0 bel lt0) (trodAll_cons_mk (Below.trod laidOut2 (by kernel_rfl) (of_decide_eq_true (by kernel_rfl)) k1 bel lt1) (trodAll_cons_mk (Below.trod laidOut2 (by kernel_rfl) (of_decide_eq_true (by kernel_rfl)) k2 bel lt2) trodAll_mk0))), rfl, bel.frame _, fun h => by cases h⟩

theorem over : Rows.logMeansRow.holds Try.pinned (OpenSpec.ofChange Rows.logMeansSpec) :=
  OpenClaim.holds_of_wide 4 Try.f4 rfl rfl rfl rfl rfl rfl rfl ⟨rfl, rfl, rfl, rfl, rfl⟩ rfl rfl rfl rfl rfl (by kernel_rfl) Try.func4 (by kernel_rfl)
    (of_decide_eq_true (by kernel_rfl)) (by unfold Func.isWrapper; first | (rw [if_pos (by decide +kernel)]; kernel_rfl) | (rw [if_neg (by decide +kernel)]; exact ⟨rfl, rfl⟩))
    (fun os started H enc _ => lifted os started H enc)

end LLogMeans

theorem logMeans_holds : Rows.LogMeansSaid := LLogMeans.over

end Go.Proofs.Ytgfkpgogfahdaaa
