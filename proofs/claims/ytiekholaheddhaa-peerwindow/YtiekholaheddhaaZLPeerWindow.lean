/-
  Chapter 17's law PeerWindow returns true for every window, every push and every script, and leaves its argument as it was; no condition.
-/
import Derived.Test.YtiekholaheddhaaRows
import Derived.WalkKit
import Derived.ProofKit
import Derived.OpenShut
import Derived.ShutString
import Derived.ChangeOld
import Derived.Below
import Derived.Test.YtiekholaheddhaaZPW
import Derived.Test.YtiekholaheddhaaZQW
import Derived.Deep.CutRange
set_option linter.unusedVariables false
set_option linter.unusedSimpArgs false
namespace Go.Proofs.Ytiekholaheddhaa
namespace LPeerWindow
open Go.ChangeShapes Go.WideShapes Go.ChangeAt Go.RowKit Go.Lib
open Go.ChangeMaps (open_string shut_string)

set_option maxRecDepth 100000 in
set_option maxHeartbeats 8000000 in
theorem walk (ls ms : Int) (a0 : Option Addr) (len0 cap0 : Nat) (ss : List Stp) (w : World) (h0 : (Lit.int .i64 ls).wf = true) (h1 : (Lit.int .i64 ms).wf = true) (w0 : RSt w (.slice a0 len0 cap0) ss ∧ ss.length = len0 ∧ len0 ≤ maxLen ∧ ∀ e ∈ ss, StW e) :
    Calls Try.prog 7 #[.int .i64 ls, .int .i64 ms, .slice a0 len0 cap0] w fun e W => e = .returned (.bool true) ∧ Below w.heap.size w W := by
  obtain ⟨hr, hln, hmx, hst⟩ := w0
  unfold maxLen at hmx
  have HN := hide (New_in ls ms w)
  have HK := hide (fun W => known_in W)
  clear h0 h1
  by_cases hbig : 500 < len0
  · have hbig' : (500 : Int) < (len0 : Int) := by omega
    clear HN hr hln hst
    go_enter Try.func7, Try.ntmps7
    go_wp2_with fail
    refine (unhide HK _).mono ?_
    rintro r W2 ⟨rfl, hb2⟩
    go_wp2
    go_ret
    exact ⟨rfl, hb2⟩
  have hbig' : ¬ (500 : Int) < (len0 : Int) := by omega
  have Hln := hide hln
  have Hr := hide hr
  have Hst := hide hst
  clear hr hst hln
  by_cases hB : newB ls ms = true
  rotate_left
  · have hB' : newB ls ms = false := by simpa using hB
    have HB := hide hB'
    clear hB hB'
    go_enter Try.func7, Try.ntmps7
    go_wp2_with fail
    refine (unhide HN).mono ?_
    rintro e W1 ⟨b1, h1⟩
    rw [unhide HB] at h1
    clear HN
    rcases h1 with ⟨h, _⟩ | ⟨_, rfl⟩
    · cases h
    replace b1 := hide b1
    go_wp2_with fail
    refine (unhide HK _).mono ?_
    rintro r W2 ⟨rfl, hb2⟩
    go_wp2
    go_ret
    exact ⟨rfl, bnext (unhide b1) hb2⟩
  have HNW := hide (fun e W (h : NewA w 39 ls ms e W) => KP.new h hB)
  have hlim : 1 ≤ ls ∧ ls ≤ 64 ∧ 1 ≤ ms ∧ ms ≤ 256 := by unfold newB at hB; exact of_decide_eq_true hB
  obtain ⟨hl1, hl2, hl3, hl4⟩ := hlim
  clear hB
  obtain ⟨b, hb⟩ : ∃ b, w.heap.size = b := ⟨_, rfl⟩
  rw [hb] at HNW
  clear hb
  go_enter Try.func7, Try.ntmps7
  go_wp2_with fail
  refine (unhide HN).mono ?_
  intro e W1 h1
  obtain ⟨rfl, hk1⟩ := unhide HNW e W1 h1
  replace hk1 := hide hk1
  clear h1 HN HNW
  go_wp2
  go_loopw [9, 10] (fun gv iv wr => ∃ (i : Nat) (s : St), gv = .int .i64 s.la ∧ iv = .int .i64 (i : Nat) ∧ i ≤ len0 ∧ Hid (s.wd = ls ∧ s.ps = ms ∧ s.la ≤ (i : Int)) ∧ Hid (KP w wr b s)) (fun gv iv _ => len0 - (RowKit.intOf iv).toNat)
  case atStart => exact ⟨0, newS ls ms, rfl, rfl, by omega, hide ⟨rfl, rfl, by show (0 : Int) ≤ 0; omega⟩, hk1⟩
  case round =>
    obtain ⟨i, s, rfl, rfl, hi, HE, HP⟩ := hrel
    clear hk1
    by_cases hlt : i < len0
    rotate_left
    · have hlt' : ¬ (i : Int) < (len0 : Int) := by omega
      go_wp2_with fail
      refine (unhide HK _).mono ?_
      rintro r W5 ⟨rfl, hb5⟩
      go_wp2
      go_ret
      exact ⟨rfl, bnext (unhide HP).bel hb5⟩
    have hlt' : (i : Int) < (len0 : Int) := by omega
    have hls : i < ss.length := by rw [unhide Hln]; exact hlt
    obtain ⟨x, hx⟩ : ∃ s, ss[i]? = some s := ⟨_, List.getElem?_eq_getElem hls⟩
    obtain ⟨b0, off, rfl, hb0, q0, q1, q2, q3⟩ := RSt.at ((unhide Hr).below (unhide HP).bel) hx
    obtain ⟨V, hV⟩ : ∃ V, wr.alloc (.cells #[.int .i64 x.kind, .int .i64 x.num, .int .i64 x.got, .int .i64 x.crd] 31) = V := ⟨_, rfl⟩
    have bV : Below wr.heap.size wr V := by rw [← hV]; exact ballc (Below.refl _ _) _
    have BV : Bx V wr.heap.size 31 (stC x) := by rw [← hV]; exact Bx.new _ _ _
    have HMk := hide (WK.make (unhide HP) bV BV)
    have hlen := (unhide HP).ln
    have hgd := (unhide HP).gd
    have HGd := hide hgd
    obtain ⟨bx, hbx⟩ : ∃ bx, wr.heap.size = bx := ⟨_, rfl⟩
    rw [hbx] at HMk
    obtain ⟨n, hn⟩ : ∃ n, s.fl.length = n := ⟨_, rfl⟩
    obtain ⟨la, hla⟩ : ∃ la, s.la = la := ⟨_, rfl⟩
    obtain ⟨cr, hcr⟩ : ∃ cr, s.cr = cr := ⟨_, rfl⟩
    have Hn := hide hn
    have Hla := hide hla
    have Hcr := hide hcr
    have hlab : la ≤ (i : Int) := by rw [← hla]; exact (unhide HE).2.2
    have hla0 : 0 ≤ la := by rw [← hla]; exact hgd.l0
    rw [hn] at HMk hlen
    rw [hla]
    clear hx bV BV hls hn hla hcr hgd
    go_wp2_with fail
    refine (unhide HMk).mono ?_
    rintro e X1 ⟨a1, c1, rfl, hw1⟩
    have K1 := hide hw1
    obtain ⟨y0, y1, y2, y3⟩ := hw1.y
    have HC1 := hide hw1.crd
    rw [unhide Hcr] at HC1
    clear HMk hw1 q0 q1 q2 q3 hV hbx HP
    go_wp2_with fail
    refine (unhide HC1).mono ?_
    rintro e X2 ⟨rfl, rfl⟩
    clear HC1
    go_upto_region 13 with fail
    go_cut [49] from 48 to 49 (fun v wx => v = .int .i64 x.kind ∧ X1 = wx)
    case first =>
      go_wp2
      go_meet
      case rel => exact ⟨rfl, rfl⟩
    obtain ⟨rfl, rfl⟩ := hcut
    rename_i hKx
    refine hKx _ _ ?_
    clear hKx
    go_cut [9] from 48 to 212 (fun gv wx => Hid (∃ s2 : St, gv = .int .i64 s2.la ∧ s2.wd = ls ∧ s2.ps = ms ∧ s2.la ≤ (i : Int) + 1 ∧ KP w wx b s2))
    case first =>
      by_cases hk1 : x.kind = 1
      · as_aux_lemma =>
          have hkk : (x.kind == 1) = true := by simpa using hk1
          clear hk1
          have HS := hide ((unhide K1).snd x.num)
          by_cases hnum : x.num < 1
          · obtain ⟨e1, e2, e3⟩ := snd_off (s := s) hnum
            rw [e1, e2, e3] at HS
            clear e1 e2 e3 K1
            go_wp2_with fail
            refine (unhide HS).mono ?_
            rintro e X2 ⟨rfl, hw2⟩
            obtain ⟨y0, y1, y2, y3⟩ := hw2.y
            have HF2 := hide hw2.flg
            rw [unhide Hn] at HF2
            clear HS hw2
            go_wp2_with fail
            refine (unhide HF2).mono ?_
            rintro e X3 ⟨a3, c3, rfl, o3, b3, hw3⟩
            have HI := hide (ints_in (.slice a3 n c3) (.slice a1 n c1) s.fl s.fl X3 o3.row hw3.row.row (by have := unhide Hn; omega) (by have := unhide Hn; omega))
            rw [decide_eq_true rfl] at HI
            have K3 := hide hw3
            clear HF2 o3 b3 hw3
            go_wp2_with fail
            refine (unhide HI).mono ?_
            rintro e X4 ⟨rfl, b4⟩
            have K4 := hide ((unhide K3).below b4).kp
            clear HI K3 b4 y0 y1 y2 y3
            go_wp2
            go_roundw
            case rel => exact ⟨i + 1, s, by rw [unhide Hla], by go_num, by omega, hide ⟨(unhide HE).1, (unhide HE).2.1, by have := (unhide HE).2.2; omega⟩, K4⟩
            case measure => show len0 - ((i : Int) + 1).toNat < len0 - ((i : Nat) : Int).toNat; omega

          obtain ⟨N, hN⟩ : ∃ N, sndN s x.num = N := ⟨_, rfl⟩
          obtain ⟨C, hC⟩ : ∃ C, sndC s x.num = C := ⟨_, rfl⟩
          obtain ⟨s2, hs2⟩ : ∃ s2, sndS s x.num = s2 := ⟨_, rfl⟩
          have hwd : s.wd ≠ 0 := by rw [(unhide HE).1]; omega
          obtain ⟨hc1, hc2, hc3, hc4, hc5⟩ := snd_cnt (k := x.num) (unhide HGd) hnum hwd (by rw [(unhide HE).2.1]; exact hl3)
          rw [hC] at hc1 hc2 hc3 hc4 hc5
          rw [(unhide HE).2.1] at hc3 hc5
          rw [unhide Hcr] at hc4 hc5
          have HNN := hide hN
          have HSS := hide hs2
          rw [hN, hC, hs2] at HS
          have Hc5 := hide hc5
          have Hwd := hide hwd
          clear hN hC hs2 K1 hc5 hwd
          go_wp2_with fail
          refine (unhide HS).mono ?_
          rintro e X2 ⟨rfl, hw2⟩
          obtain ⟨y0, y1, y2, y3⟩ := hw2.y
          have K2 := hide hw2
          clear HS hw2
          go_upto_region 19 with fail
          go_cut [110] from 75 to 110 (fun v wx => v = .bool false ∧ X2 = wx)
          case first =>
            by_cases h5 : C < ms
            · by_cases h6 : C < x.num
              · have h7 := unhide Hc5 h5 h6
                have h8 : (C != max cr 1) = false := by rw [h7]; simp
                clear h7
                go_wp2
                go_meet
                case rel => exact ⟨(by first | rfl | (simp only [Value.bool.injEq, Bool.or_eq_false_iff, decide_eq_false_iff_not]; omega)), rfl⟩
              · go_wp2
                go_meet
                case rel => exact ⟨(by first | rfl | (simp only [Value.bool.injEq, Bool.or_eq_false_iff, decide_eq_false_iff_not]; omega)), rfl⟩
            · go_wp2
              go_meet
              case rel => exact ⟨(by first | rfl | (simp only [Value.bool.injEq, Bool.or_eq_false_iff, decide_eq_false_iff_not]; omega)), rfl⟩
          case rest =>
            obtain ⟨rfl, rfl⟩ := hcut
            clear hc1 hc2 hc3 hc4 Hc5
            go_upto_region 21 with fail
            go_cut [145] from 111 to 145 (fun v wx => v = .bool false ∧ Hid (WK w bx x (.slice a1 n c1) s.fl b s2 wx))
            case first =>
              have HA := hide (among_in (.slice a1 n c1) s.fl N X2 (unhide K2).row.row (by have := unhide Hn; omega))
              have HF2 := hide (unhide K2).flg
              obtain ⟨n2, hn2⟩ : ∃ n2, s2.fl.length = n2 := ⟨_, rfl⟩
              have hn64 : n2 ≤ 64 := by rw [← hn2]; exact (unhide K2).kp.ln
              have HA2 := hide (fun a3 c3 X3 (h : RN X3 (.slice a3 n2 c3) s2.fl) => among_in (.slice a3 n2 c3) s2.fl N X3 h (by omega))
              rw [hn2] at HF2
              by_cases hf : (s.fl.length : Int) = s.wd
              · obtain ⟨f1, f2, f3, f4⟩ := snd_full (k := x.num) (unhide HGd) (by omega) (unhide Hwd) hf
                rw [unhide HNN] at f1 f2 f4
                rw [unhide HSS] at f3
                have hr1 := (unhide K2).row.row
                rw [show (Value.slice a1 n c1) = .slice a1 s.fl.length c1 by rw [unhide Hn]] at hr1
                obtain ⟨g1, o1, ha1, hg1, z0⟩ := RN.at hr1 f2
                subst ha1
                simp only [Nat.add_zero] at z0
                have hfl : ¬ (n : Int) < ls := by rw [← unhide Hn, hf, (unhide HE).1]; omega
                have hn0 : (0 : Int) < (n : Int) := by omega
                rw [decide_eq_true f1] at HA
                have f1' : N ∈ s2.fl := by rw [f3]; exact f1
                rw [decide_eq_true f1'] at HA2
                clear f1 f1' f2 f3 f4 hf hr1 hg1 hn2
                go_wp2_with fail
                refine (unhide HA).mono ?_
                rintro e X3 ⟨rfl, rfl⟩
                go_wp2_with fail
                refine (unhide HA).mono ?_
                rintro e X3 ⟨rfl, rfl⟩
                clear HA
                go_wp2_with fail
                refine (unhide HF2).mono ?_
                rintro e X3 ⟨a3, c3, rfl, o3, b3, hw3⟩
                have K3 := hide hw3
                have HA3 := hide (unhide HA2 a3 c3 X3 o3.row)
                clear HF2 o3 b3 hw3 HA2 K2
                go_wp2_with fail
                refine (unhide HA3).mono ?_
                rintro e X4 ⟨rfl, rfl⟩
                go_wp2
                go_meet
                case rel => exact ⟨(by first | rfl | (simp only [Value.bool.injEq, Bool.or_eq_false_iff, decide_eq_false_iff_not]; omega)), K3⟩
              · obtain ⟨f1, f2, f3, f4, f5⟩ := snd_new (k := x.num) (unhide HGd) (by omega) (unhide Hwd) hf (by rw [unhide Hla]; omega)
                rw [unhide HNN] at f1 f2 f3 f4
                rw [unhide HSS] at f3
                rw [unhide Hla] at f1
                have hq : (N != la + 1) = false := by rw [f1]; simp
                rw [decide_eq_false f2] at HA
                rw [decide_eq_true f3] at HA2
                clear f1 f2 f3 f4 f5 hf hn2
                go_wp2_with fail
                refine (unhide HA).mono ?_
                rintro e X3 ⟨rfl, rfl⟩
                go_wp2_with fail
                refine (unhide HA).mono ?_
                rintro e X3 ⟨rfl, rfl⟩
                clear HA
                go_wp2_with fail
                refine (unhide HF2).mono ?_
                rintro e X3 ⟨a3, c3, rfl, o3, b3, hw3⟩
                have K3 := hide hw3
                have HA3 := hide (unhide HA2 a3 c3 X3 o3.row)
                clear HF2 o3 b3 hw3 HA2 K2
                go_wp2_with fail
                refine (unhide HA3).mono ?_
                rintro e X4 ⟨rfl, rfl⟩
                go_wp2
                go_meet
                case rel => exact ⟨(by first | rfl | (simp only [Value.bool.injEq, Bool.or_eq_false_iff, decide_eq_false_iff_not]; omega)), K3⟩
            case rest =>
              obtain ⟨rfl, K⟩ := hcut
              obtain ⟨la2, hla2⟩ : ∃ la2, s2.la = la2 := ⟨_, rfl⟩
              have HL2 := hide hla2
              have hmx2 : max la N = la2 ∧ la2 ≤ (i : Int) + 1 := by
                by_cases hf : (s.fl.length : Int) = s.wd
                · obtain ⟨f1, f2, f3, f4⟩ := snd_full (k := x.num) (unhide HGd) (by omega) (unhide Hwd) hf
                  rw [unhide HNN, unhide Hla] at f4
                  rw [unhide HSS] at f3
                  rw [f4, ← hla2, f3, unhide Hla]
                  exact ⟨rfl, by omega⟩
                · obtain ⟨f1, f2, f3, f4, f5⟩ := snd_new (k := x.num) (unhide HGd) (by omega) (unhide Hwd) hf (by rw [unhide Hla]; omega)
                  rw [unhide HNN, unhide HSS, unhide Hla, hla2] at f4
                  rw [unhide HSS, unhide Hla, hla2] at f5
                  exact ⟨f4, by omega⟩
              have HE2 : Hid (s2.wd = ls ∧ s2.ps = ms ∧ s2.la ≤ (i : Int) + 1) := by
                have := snd_wd s x.num
                rw [unhide HSS] at this
                exact ⟨by rw [this.1]; exact (unhide HE).1, by rw [this.2]; exact (unhide HE).2.1, by rw [hla2]; exact hmx2.2⟩
              have hmx3 := hmx2.1
              clear hla2 hmx2 K2
              go_wp2
              go_meet
              case rel => exact hide ⟨s2, by rw [unhide HL2], (unhide HE2).1, (unhide HE2).2.1, (unhide HE2).2.2, (unhide K).kp⟩
      by_cases hk2 : x.kind = 2
      · as_aux_lemma =>
          have hkk : (x.kind == 1) = false := by rw [hk2]; rfl
          have hkk2 : (x.kind == 2) = true := by simpa using hk2
          clear hk1 hk2
          obtain ⟨s2, hs2⟩ : ∃ s2, hrdS s x.num x.got x.crd = s2 := ⟨_, rfl⟩
          obtain ⟨B, hB⟩ : ∃ B, hrdB s x.got = B := ⟨_, rfl⟩
          have HS := hide ((unhide K1).hrd x.num x.got x.crd)
          have hHH := hrd_hrd (unhide HGd) x.num x.got x.crd
          have efl : s2.fl = lft s.fl x.got := by rw [← hs2]; rfl
          have HL2 := hide (show s2.la = la by rw [← unhide Hla, ← hs2]; rfl)
          have HE2 : Hid (s2.wd = ls ∧ s2.ps = ms ∧ s2.la ≤ (i : Int) + 1) := by
            rw [unhide HL2, ← hs2]
            exact ⟨(unhide HE).1, (unhide HE).2.1, by omega⟩
          rw [hs2, hB] at HS
          rw [hs2] at hHH
          have HHH := hide hHH
          have Hfl := hide efl
          obtain ⟨n3, hn3⟩ : ∃ n3, s2.fl.length = n3 := ⟨_, rfl⟩
          have hBB : B = decide (n3 < n) := by rw [← hB, ← hn3, ← unhide Hn, efl]; rfl
          have Hn3 := hide hn3
          have HBB := hide hBB
          clear hs2 hB K1 hHH efl hn3 hBB
          go_wp2_with fail
          refine (unhide HS).mono ?_
          rintro e X2 ⟨rfl, hw2⟩
          have hn64 : n3 ≤ 64 := by rw [← unhide Hn3]; exact hw2.kp.ln
          have HF2 := hide hw2.flg2
          rw [unhide Hn3] at HF2
          clear HS hw2
          go_wp2_with fail
          refine (unhide HF2).mono ?_
          rintro e X3 ⟨a3, c3, rfl, hw3, ow3⟩
          have K3 := hide hw3
          have O3 := hide ow3
          clear HF2 hw3 ow3 y0 y1 y2 y3
          go_wp2
          go_loopw [18] (fun kv wq => ∃ k : Nat, kv = .int .i64 (k : Nat) ∧ k ≤ n ∧ Hid (Below X3.heap.size X3 wq)) (fun kv _ => n - (RowKit.intOf kv).toNat)
          case atStart => exact ⟨0, rfl, by omega, hide (Below.refl _ _)⟩
          case round =>
            obtain ⟨k, rfl, hk, HBk⟩ := hrel
            by_cases hkn : k < n
            · have hkn' : (k : Int) < (n : Int) := by omega
              have hkl : k < s.fl.length := by rw [unhide Hn]; exact hkn
              obtain ⟨y, hy⟩ : ∃ y, s.fl[k]? = some y := ⟨_, List.getElem?_eq_getElem hkl⟩
              have hr1 := (own_below (unhide O3) (unhide HBk)).row
              rw [show (Value.slice a1 n c1) = .slice a1 s.fl.length c1 by rw [unhide Hn]] at hr1
              obtain ⟨g1, o1, ha1, hg1, z0⟩ := RN.at hr1 hy
              subst ha1
              have K4 := (unhide K3).below (unhide HBk)
              obtain ⟨-, -, y2, -⟩ := K4.y
              have HA : Hid (∀ W', wr.heap = W'.heap → Calls Try.prog 20 #[.slice a3 n3 c3, .int .i64 y] W' fun e w2 => e = .returned (.bool (decide (x.got < y))) ∧ w2 = W') := fun W' hh => by
                have := among_in (.slice a3 n3 c3) s2.fl y W' (K4.row.row.heap hh) (by rw [unhide Hn3]; omega)
                rw [unhide Hfl, lft_has hy] at this
                exact this
              clear hr1 hy hkl K4
              by_cases hgy : x.got < y
              · rw [decide_eq_true hgy] at HA
                go_wp2
                go_quiet ((go_at_call 20; exact Calls.quiet_of_same (unhide HA _ rfl)))
                go_wp2
                go_roundw
                case rel => exact ⟨k + 1, by go_num, by omega, hide (bdrew (unhide HBk) _)⟩
                case measure => show n - ((k : Int) + 1).toNat < n - ((k : Nat) : Int).toNat; omega
              · rw [decide_eq_false hgy] at HA
                go_wp2
                go_quiet ((go_at_call 20; exact Calls.quiet_of_same (unhide HA _ rfl)))
                go_wp2
                go_roundw
                case rel => exact ⟨k + 1, by go_num, by omega, hide (bdrew (unhide HBk) _)⟩
                case measure => show n - ((k : Int) + 1).toNat < n - ((k : Nat) : Int).toNat; omega
            · have hkn' : ¬ (k : Int) < (n : Int) := by omega
              have K4 := hide ((unhide K3).below (unhide HBk))
              obtain ⟨y0, y1, y2, y3⟩ := (unhide K4).y
              have HS2 := hide ((unhide K4).hrd x.num x.got x.crd)
              rw [(unhide HHH).1, (unhide HHH).2] at HS2
              clear K3 O3 K4
              have hBt : (n3 : Int) < (n : Int) → B = true := fun h => by rw [unhide HBB]; exact decide_eq_true (by omega)
              have hBf : ¬ (n3 : Int) < (n : Int) → B = false := fun h => by rw [unhide HBB]; exact decide_eq_false (by omega)
              have HBt := hide hBt
              have HBf := hide hBf
              clear hBt hBf HBB
              by_cases hnn : (n3 : Int) < (n : Int)
              all_goals (
                (first | have hBB := unhide HBt hnn | have hBB := unhide HBf hnn)
                subst hBB
                clear HBt HBf
                go_wp2_with fail
                refine (unhide HS2).mono ?_
                rintro e X5 ⟨rfl, hw5⟩
                have HF5 := hide hw5.flg
                rw [unhide Hn3] at HF5
                clear HS2 hw5 y0 y1 y2 y3
                go_wp2_with fail
                refine (unhide HF5).mono ?_
                rintro e X6 ⟨a6, c6, rfl, o6, b6, hw6⟩
                have HI := hide (ints_in (.slice a6 n3 c6) (.slice a3 n3 c3) s2.fl s2.fl X6 o6.row hw6.row.row (by have := unhide Hn3; omega) (by have := unhide Hn3; omega))
                rw [decide_eq_true rfl] at HI
                have K6 := hide hw6
                clear HF5 o6 b6 hw6
                go_wp2_with fail
                refine (unhide HI).mono ?_
                rintro e X7 ⟨rfl, b7⟩
                have K := hide ((unhide K6).below b7)
                obtain ⟨y0, y1, y2, y3⟩ := (unhide K).y
                clear HI K6 b7
                go_wp2
                go_meet
                case rel => exact hide ⟨s2, by rw [unhide HL2], (unhide HE2).1, (unhide HE2).2.1, (unhide HE2).2.2, (unhide K).kp⟩)
      by_cases hk3 : x.kind = 3
      · as_aux_lemma =>
          have hkk : (x.kind == 1) = false := by rw [hk3]; rfl
          have hkk2 : (x.kind == 2) = false := by rw [hk3]; rfl
          have hkk3 : (x.kind == 3) = true := by simpa using hk3
          clear hk1 hk2 hk3
          obtain ⟨s2, hs2⟩ : ∃ s2, clrS s = s2 := ⟨_, rfl⟩
          have HS := hide (unhide K1).clr
          have HL2 := hide (show s2.la = la by rw [← unhide Hla, ← hs2]; rfl)
          have HE2 : Hid (s2.wd = ls ∧ s2.ps = ms ∧ s2.la ≤ (i : Int) + 1) := by
            rw [unhide HL2, ← hs2]
            exact ⟨(unhide HE).1, (unhide HE).2.1, by omega⟩
          have Hfl := hide (show s2.fl.length = 0 by rw [← hs2]; rfl)
          rw [hs2] at HS
          clear hs2 K1
          go_wp2_with fail
          refine (unhide HS).mono ?_
          rintro e X2 ⟨rfl, hw2⟩
          have HF2 := hide hw2.flg
          rw [unhide Hfl] at HF2
          clear HS hw2 y0 y1 y2 y3
          go_wp2_with fail
          refine (unhide HF2).mono ?_
          rintro e X3 ⟨a3, c3, rfl, o3, b3, hw3⟩
          have K := hide hw3
          obtain ⟨y0, y1, y2, y3⟩ := hw3.y
          clear HF2 o3 b3 hw3
          go_wp2
          go_meet
          case rel => exact hide ⟨s2, by rw [unhide HL2], (unhide HE2).1, (unhide HE2).2.1, (unhide HE2).2.2, (unhide K).kp⟩
      as_aux_lemma =>
        have hkk : (x.kind == 1) = false := by simpa using hk1
        have hkk2 : (x.kind == 2) = false := by simpa using hk2
        have hkk3 : (x.kind == 3) = false := by simpa using hk3
        clear hk1 hk2 hk3
        obtain ⟨s2, hs2⟩ : ∃ s2, s = s2 := ⟨_, rfl⟩
        have HL2 := hide (show s2.la = la by rw [← unhide Hla, ← hs2])
        have HE2 : Hid (s2.wd = ls ∧ s2.ps = ms ∧ s2.la ≤ (i : Int) + 1) := by
          rw [unhide HL2, ← hs2]
          exact ⟨(unhide HE).1, (unhide HE).2.1, by omega⟩
        have K : Hid (WK w bx x (.slice a1 n c1) s.fl b s2 X1) := by rw [← hs2]; exact K1
        clear hs2 K1
        go_wp2
        go_meet
        case rel => exact hide ⟨s2, by rw [unhide HL2], (unhide HE2).1, (unhide HE2).2.1, (unhide HE2).2.2, (unhide K).kp⟩
    case rest =>
      have HX := hcut
      obtain ⟨s2, rfl, hE2⟩ := unhide HX
      have HE2 := hide (And.intro hE2.1 (And.intro hE2.2.1 hE2.2.2.1))
      have K := hide hE2.2.2.2
      obtain ⟨la2, hla2⟩ : ∃ la2, s2.la = la2 := ⟨_, rfl⟩
      have HL2 := hide hla2
      rw [hla2]
      clear HX hcut hE2 hla2 K1 y0 y1 y2 y3
      as_aux_lemma =>
        have hg2 := (unhide K).gd
        obtain ⟨n2, hn2⟩ : ∃ n2, s2.fl.length = n2 := ⟨_, rfl⟩
        have HFl := hide ((unhide K).flgN hn2)
        obtain ⟨cr2, hcr2⟩ : ∃ cr2, s2.cr = cr2 := ⟨_, rfl⟩
        have hnl : ¬ ls < (n2 : Int) := by have := hg2.ln; rw [(unhide HE2).1, hn2] at this; omega
        have hn64 : n2 ≤ 64 := by have := hg2.ln; have := hg2.w1; omega
        have hcr0 : ¬ cr2 < 0 := by rw [← hcr2]; have := hg2.c0; omega
        have hcr1 : ¬ 256 < cr2 := by rw [← hcr2]; have := hg2.c1; omega
        have HG2 := hide hg2
        have HN2 := hide hn2
        have HCr2 := hide hcr2
        clear hg2 hn2 hcr2
        go_wp2_with fail
        refine (unhide HFl).mono ?_
        rintro e Y1 ⟨a5, c5, rfl, o5, b5⟩
        have hw5 := (unhide K).below b5
        have HC5 := hide hw5.crd
        rw [unhide HCr2] at HC5
        have K5 := hide hw5
        have O5 := hide o5
        clear HFl o5 b5 hw5 K
        go_wp2_with fail
        refine (unhide HC5).mono ?_
        rintro e Y2 ⟨rfl, rfl⟩
        go_wp2_with fail
        refine (unhide HC5).mono ?_
        rintro e Y2 ⟨rfl, rfl⟩
        clear HC5
        go_wp2
        go_loopw [20] (fun kv wq => ∃ k : Nat, kv = .int .i64 (k : Nat) ∧ k ≤ n2 ∧ Hid (Below Y1.heap.size Y1 wq)) (fun kv _ => n2 - (RowKit.intOf kv).toNat)
        case atStart => exact ⟨0, rfl, by omega, hide (Below.refl _ _)⟩
        case round =>
          obtain ⟨k, rfl, hk, HBk⟩ := hrel
          by_cases hkn : k < n2
          rotate_left
          · have hkn' : ¬ (k : Int) < (n2 : Int) := by omega
            go_wp2
            go_roundw
            case rel => exact ⟨i + 1, s2, by rw [unhide HL2], by go_num, by omega, hide ⟨(unhide HE2).1, (unhide HE2).2.1, by have := (unhide HE2).2.2; omega⟩, hide ((unhide K5).below (unhide HBk))⟩
            case measure => show len0 - ((i : Int) + 1).toNat < len0 - ((i : Nat) : Int).toNat; omega
          have hkn' : (k : Int) < (n2 : Int) := by omega
          have hkl : k < s2.fl.length := by rw [unhide HN2]; exact hkn
          obtain ⟨y, hy⟩ : ∃ y, s2.fl[k]? = some y := ⟨_, List.getElem?_eq_getElem hkl⟩
          have hr5 := (own_below (unhide O5) (unhide HBk)).row
          rw [show (Value.slice a5 n2 c5) = .slice a5 s2.fl.length c5 by rw [unhide HN2]] at hr5
          obtain ⟨g5, o5, ha5, hg5, z0⟩ := RN.at hr5 hy
          subst ha5
          have hy1 := (unhide HG2).le y (List.mem_of_getElem? hy)
          have hy2 : ¬ y < 1 := by omega
          have hy3 : ¬ la2 < y := by rw [← unhide HL2]; omega
          by_cases hk0 : k = 0
          · subst hk0
            simp only [Nat.add_zero] at z0
            have mixed : Try.prog.follows .mixedOrders = true := by kernel_rfl
            have hne := BelowOf.ne wr
            have zz : ∀ p : BelowOf wr, p.w.cell? ⟨g5, o5, none⟩ = some (.int .i64 y) := fun p => cell_below z0 p.h
            clear hr5 hy hy1 hkl
            go_wp2_with fail
            refine wp_region_quiet_below mixed (by kernel_rfl) ?_
            repeat (any_goals (first | go_big_quiet_step (fail) | quiet_step (fail)))
            all_goals (refine wpQuiet_nil ?_; intro _ hw'; obtain ⟨p, hw''⟩ := hw'; subst hw'')
            have HBW := hide (bnext (unhide HBk) p.h)
            clear hne
            go_wp2
            go_roundw
            case rel => exact ⟨1, by go_num, by omega, HBW⟩
            case measure => show n2 - ((0 : Int) + 1).toNat < n2 - (0 : Int).toNat; omega
          obtain ⟨m, hm⟩ : ∃ m, k = m + 1 := ⟨k - 1, by omega⟩
          obtain ⟨y', hy'⟩ : ∃ y', s2.fl[m]? = some y' := ⟨_, List.getElem?_eq_getElem (by omega)⟩
          obtain ⟨g6, o6, ha6, hg6, z1⟩ := RN.at hr5 hy'
          simp only [Option.some.injEq, Addr.mk.injEq, and_true] at ha6
          obtain ⟨rfl, rfl⟩ := ha6
          have hyy : ¬ y ≤ y' := by
            have hp := List.pairwise_iff_getElem.1 (unhide HG2).ris m k (by omega) hkl (by omega)
            rw [List.getElem?_eq_getElem hkl] at hy
            rw [List.getElem?_eq_getElem (by omega)] at hy'
            cases hy
            cases hy'
            omega
          have hmw : IntKind.i64.wrap ((k : Int) - 1) = (m : Int) := by simp only [IntKind.wrap_i64]; omega
          have hk0' : (0 : Int) < (k : Int) := by omega
          have hm1 : (m : Int) < (n2 : Int) := by omega
          have mixed : Try.prog.follows .mixedOrders = true := by kernel_rfl
          have hne := BelowOf.ne wr
          have zz : ∀ p : BelowOf wr, p.w.cell? ⟨g5, o5 + k, none⟩ = some (.int .i64 y) := fun p => cell_below z0 p.h
          have zy : ∀ p : BelowOf wr, p.w.cell? ⟨g5, o5 + m, none⟩ = some (.int .i64 y') := fun p => cell_below z1 p.h
          clear hr5 hy hy1 hkl hy' hm hk0
          go_wp2_with fail
          have hd0 : decide ((0 : Int) < (k : Int)) = true := decide_eq_true (by omega)
          have hd1 : decide (0 < k) = true := decide_eq_true (by omega)
          refine wp_region_quiet_below mixed (by kernel_rfl) ?_
          repeat (any_goals (first | go_big_quiet_step (fail) | quiet_step (fail)))
          all_goals (refine wpQuiet_nil ?_; intro _ hw'; obtain ⟨p, hw''⟩ := hw'; subst hw'')
          have HBW := hide (bnext (unhide HBk) p.h)
          clear hne hmw
          go_wp2
          go_roundw
          case rel => exact ⟨k + 1, by go_num, by omega, HBW⟩
          case measure => show n2 - ((k : Int) + 1).toNat < n2 - ((k : Nat) : Int).toNat; omega

theorem own : ownKnob Try.prog.godebug = none := by kernel_rfl
theorem laidOut2 : laidOutB Try.prog = true := by kernel_rfl

set_option maxRecDepth 100000 in
theorem lifted (os : Os) (started : os.Started) (H : Type) (enc : TypeId × Value → H) :
    ReturnsInHanded {} Try.checked os 7 .any (Rows.peerWindowSpec.pre6 enc Try.prog Try.f7 Rows.peerWindowRow.domain false) (Rows.peerWindowSpec.post enc Try.prog Try.f7 false true false false) := by
  refine returnsInHanded_of_change (C := Try.checked) own started (by kernel_rfl) Try.func7
    (ChangeSpec.witness6 (enc := enc) (C := Try.checked) false ⟨#[], #[.int .i64 0, .int .i64 0, .slice none 0 0], []⟩ 8 (by kernel_rfl) (by kernel_rfl) (by kernel_rfl) (by kernel_rfl)) ?_
  intro W base args ds gs before hval0 hW hcnd _
  have hval : ∀ (j : Nat) t v, Try.f7.params[j]? = some t → args[j]? = some v → Value.okWide Try.prog W .any base t v := hval0
  have hW' := hW
  obtain ⟨p, q, hA0, hV, rfl, hfz, hnd⟩ := hW
  have hA : DataW.TrodAll enc Try.prog W 0 (fun _ => true) true Try.f7.params.toList args.toList ds p := hA0
  rw [Try.params7] at hA hval
  obtain ⟨v0, vs0, d0, ds0, p0, q0, hargs, rfl, rfl, h0, r0⟩ := trodAll_cons hA
  obtain ⟨v1, vs1, d1, ds1, p1, q1, rfl, rfl, rfl, h1, r1⟩ := trodAll_cons r0
  obtain ⟨v2, vs2, d2, ds2, p2, q2, rfl, rfl, rfl, h2, r2⟩ := trodAll_cons r1
  obtain ⟨rfl, rfl, rfl⟩ := trodAll_nil r2
  obtain rfl : args = #[v0, v1, v2] := by cases args; simp_all
  obtain ⟨rfl, rfl⟩ := trodVars_none hV
  obtain ⟨a0, rfl, rfl, rfl, w0⟩ := open_int Try.underlying3 (hval 0 3 v0 rfl rfl) h0
  obtain ⟨a1, rfl, rfl, rfl, w1⟩ := open_int Try.underlying3 (hval 1 3 v1 rfl rfl) h1
  obtain ⟨a2, len2, cap2, rfl⟩ := okWide_slice Try.underlying34 (hval 2 34 v2 rfl rfl)
  have k2 := h2
  have lt2 : ∀ x ∈ p2, x.block < W.heap.size := by obtain ⟨m, hm⟩ := k2; exact DataW.trod_lt m _ _ _ hm
  obtain ⟨z2, w2⟩ : ∃ l : List Stp, RSt W (.slice a2 len2 cap2) l ∧ l.length = len2 ∧ len2 ≤ maxLen ∧ ∀ e ∈ l, StW e := by
    obtain ⟨fuel, hf⟩ := h2
    simp only [Value.cells] at hf
    exact open_steps hf
  clear hA0 hval0
  refine (walk a0 a1 a2 len2 cap2 z2 W w0 w1 w2).mono fun e W' ⟨he, bel⟩ => ?_
  subst he
  exact ⟨_, rfl, _, _, _, [], _, [], hW', trodAll_mk1 (shut_bool Try.underlying4 _), (trodAll_cons_mk (shut_int Try.underlying3 w0) (trodAll_cons_mk (shut_int Try.underlying3 w1) (trodAll_cons_mk (Below.trod laidOut2 (by kernel_rfl) (of_decide_eq_true (by kernel_rfl)) k2 bel lt2) trodAll_mk0))), rfl, bel.frame _, fun h => by cases h⟩

theorem over : Rows.peerWindowRow.holds Try.pinned (OpenSpec.ofChange Rows.peerWindowSpec) :=
  OpenClaim.holds_of_wide 7 Try.f7 rfl rfl rfl rfl rfl rfl rfl ⟨rfl, rfl, rfl, rfl, rfl⟩ rfl rfl rfl rfl rfl (by kernel_rfl) Try.func7 (by kernel_rfl)
    (of_decide_eq_true (by kernel_rfl)) (by unfold Func.isWrapper; first | (rw [if_pos (by decide +kernel)]; kernel_rfl) | (rw [if_neg (by decide +kernel)]; exact ⟨rfl, rfl⟩))
    (fun os started H enc _ => lifted os started H enc)

end LPeerWindow

theorem peerWindow_holds : Rows.PeerWindowSaid := LPeerWindow.over

end Go.Proofs.Ytiekholaheddhaa
