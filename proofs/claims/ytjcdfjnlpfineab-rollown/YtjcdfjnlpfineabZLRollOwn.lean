/-
  Chapter 16's law RollOwn returns true for every script, and leaves its argument as it was; no condition.
-/
import Derived.Test.YtjcdfjnlpfineabRows
import Derived.WalkKit
import Derived.ProofKit
import Derived.OpenShut
import Derived.ShutString
import Derived.ChangeOld
import Derived.Below
import Derived.Test.YtjcdfjnlpfineabZRO
set_option linter.unusedVariables false
set_option linter.unusedSimpArgs false
namespace Go.Proofs.Ytjcdfjnlpfineab
namespace LRollOwn
open Go.ChangeShapes Go.WideShapes Go.ChangeAt Go.RowKit Go.Lib
open Go.ChangeMaps (open_string shut_string)

set_option maxRecDepth 100000 in
set_option maxHeartbeats 16000000 in
theorem walk (a0 : Option Addr) (len0 cap0 : Nat) (ss : List Stp) (w : World) (w0 : RSt w (.slice a0 len0 cap0) ss ∧ ss.length = len0 ∧ len0 ≤ maxLen ∧ ∀ e ∈ ss, StW e) :
    Calls Try.prog 3 #[.slice a0 len0 cap0] w fun e W => e = .returned (.bool true) ∧ Below w.heap.size w W := by
  obtain ⟨hr, hln, hmx, -⟩ := w0
  unfold maxLen at hmx
  have HN := hide (KR.new w)
  have HK := hide (fun W => known_in W)
  have Hr := hide hr
  have Hln := hide hln
  clear hr hln
  by_cases hbig : 300 < len0
  · have hbig' : (300 : Int) < (len0 : Int) := by omega
    go_enter Try.func3, Try.ntmps3
    go_wp2_with fail
    refine (unhide HK _).mono ?_
    rintro r W2 ⟨rfl, hb2⟩
    go_wp2
    go_ret
    exact ⟨rfl, hb2⟩
  · have hbig' : ¬ (300 : Int) < (len0 : Int) := by omega
    obtain ⟨b, hb⟩ : ∃ b, w.heap.size = b := ⟨_, rfl⟩
    rw [hb] at HN
    clear hb
    go_enter Try.func3, Try.ntmps3
    go_wp2_with fail
    refine (unhide HN).mono ?_
    rintro e W1 ⟨rfl, h1⟩
    have H1 := hide h1
    clear h1 HN
    go_wp2
    go_loopw [4] (fun iv wr => ∃ (i : Nat) (s : St), iv = .int .i64 (i : Nat) ∧ i ≤ len0 ∧ Hid (KR w wr b s)) (fun iv _ => len0 - (RowKit.intOf iv).toNat)
    case atStart => exact ⟨0, _, rfl, by omega, H1⟩
    case round =>
      obtain ⟨i, s, rfl, hi, HP⟩ := hrel
      clear H1
      by_cases hlt : i < len0
      · have hlt' : (i : Int) < (len0 : Int) := by omega
        have hls : i < ss.length := by rw [unhide Hln]; exact hlt
        obtain ⟨x, hx⟩ : ∃ x, ss[i]? = some x := ⟨_, List.getElem?_eq_getElem hls⟩
        obtain ⟨b0, off, rfl, hb0, q0, q1⟩ := RSt.at ((unhide Hr).below (unhide HP).bel) hx
        have HS := hide ((unhide HP).do x)
        obtain ⟨D, hD⟩ : ∃ D, doB s x = D := ⟨_, rfl⟩
        rw [hD] at HS
        clear hx hD HP
        generalize doS s x = T at *
        generalize x.lv = k0 at *
        generalize x.site = k1 at *
        go_wp2_with fail
        refine (unhide HS).mono ?_
        rintro e W5 ⟨rfl, h5⟩
        have H5 := hide h5
        clear h5 HS
        go_wp2
        go_roundw
        case measure => show len0 - ((i : Int) + 1).toNat < len0 - ((i : Nat) : Int).toNat; omega
        case rel => exact ⟨i + 1, _, by go_num, by omega, H5⟩
      · have hlt' : ¬ (i : Int) < (len0 : Int) := by omega
        have M := hide (fun X (h : KR w X b s) => Members_in h.rb h.gd)
        have J := hide (fun X (h : KR w X b s) => Joined_in h.rb h.gd)
        have L := hide (fun X (h : KR w X b s) => Left_in h.rb h.gd)
        unfold Told at M J L
        have TI := hide (fun (q : Wd) (X : World) (a a' : Option Addr) (c c' : Nat) (o : RN X (.slice a (lsW q).length c) (lsW q)) (o' : RN X (.slice a' (lsW q).length c') (lsW q)) => told_ints o o')
        have T1 := hide (unhide TI s.m)
        have T2 := hide (unhide TI s.j)
        have T3 := hide (unhide TI s.l)
        have lm := lsW_len s.m
        have lj := lsW_len s.j
        have ll := lsW_len s.l
        obtain ⟨Lm, hLm⟩ : ∃ l, lsW s.m = l := ⟨_, rfl⟩
        obtain ⟨Lj, hLj⟩ : ∃ l, lsW s.j = l := ⟨_, rfl⟩
        obtain ⟨Ll, hLl⟩ : ∃ l, lsW s.l = l := ⟨_, rfl⟩
        rw [hLm] at M T1 lm
        rw [hLj] at J T2 lj
        rw [hLl] at L T3 ll
        rw [decide_eq_true rfl] at T1 T2 T3
        have LL := hide (show Lm.length ≤ 16 ∧ Lj.length ≤ 16 ∧ Ll.length ≤ 16 from ⟨lm, lj, ll⟩)
        clear TI hLm hLj hLl lm lj ll
        obtain ⟨nm, hnm⟩ : ∃ n, Lm.length = n := ⟨_, rfl⟩
        obtain ⟨nj, hnj⟩ : ∃ n, Lj.length = n := ⟨_, rfl⟩
        obtain ⟨nl, hnl⟩ : ∃ n, Ll.length = n := ⟨_, rfl⟩
        rw [hnm] at M T1
        rw [hnj] at J T2
        rw [hnl] at L T3
        have NN := hide (show Lm.length = nm ∧ Lj.length = nj ∧ Ll.length = nl from ⟨hnm, hnj, hnl⟩)
        clear hnm hnj hnl
        go_wp2_with fail
        refine (unhide M _ (unhide HP)).mono ?_
        rintro e X1 ⟨xa, xc, rfl, o1, b1⟩
        have K1 := hide ((unhide HP).below b1)
        have O1 := hide (OwN.row o1)
        clear b1 o1 HP
        go_wp2_with fail
        refine (unhide J _ (unhide K1)).mono ?_
        rintro e X2 ⟨ya, yc, rfl, o2, b2⟩
        have K2 := hide ((unhide K1).below b2)
        have O12 := hide ((unhide O1).below b2)
        have O2 := hide (OwN.row o2)
        clear b2 o2 K1 O1
        go_wp2_with fail
        refine (unhide L _ (unhide K2)).mono ?_
        rintro e X3 ⟨za, zc, rfl, o3, b3⟩
        have K3 := hide ((unhide K2).below b3)
        have XY := hide (show RN X3 (.slice xa nm xc) Lm ∧ RN X3 (.slice ya nj yc) Lj ∧ RN X3 (.slice za nl zc) Ll from ⟨(unhide O12).below b3, (unhide O2).below b3, OwN.row o3⟩)
        clear b3 o3 K2 O12 O2
        -- six lists
        go_wp2_with fail
        refine (unhide M _ (unhide K3)).mono ?_
        rintro e Y1 ⟨a1, c1, rfl, o1, b1⟩
        have K4 := hide ((unhide K3).below b1)
        have B1 := hide b1
        have O1 := hide o1
        clear b1 o1
        go_wp2_with fail
        refine (unhide M _ (unhide K4)).mono ?_
        rintro e Y2 ⟨a2, c2, rfl, o2, b2⟩
        have K5 := hide ((unhide K4).below b2)
        have B2 := hide b2
        have O2 := hide o2
        clear b2 o2 K4
        go_wp2_with fail
        refine (unhide J _ (unhide K5)).mono ?_
        rintro e Y3 ⟨a3, c3, rfl, o3, b3⟩
        have K6 := hide ((unhide K5).below b3)
        have B3 := hide b3
        have O3 := hide o3
        clear b3 o3 K5
        go_wp2_with fail
        refine (unhide J _ (unhide K6)).mono ?_
        rintro e Y4 ⟨a4, c4, rfl, o4, b4⟩
        have K7 := hide ((unhide K6).below b4)
        have B4 := hide b4
        have O4 := hide o4
        clear b4 o4 K6
        go_wp2_with fail
        refine (unhide L _ (unhide K7)).mono ?_
        rintro e Y5 ⟨a5, c5, rfl, o5, b5⟩
        have K8 := hide ((unhide K7).below b5)
        have B5 := hide b5
        have O5 := hide o5
        clear b5 o5 K7
        go_wp2_with fail
        refine (unhide L _ (unhide K8)).mono ?_
        rintro e Y6 ⟨a6, c6, rfl, o6, b6⟩
        have r6 := R6.make (unhide B1) (unhide B2) (unhide B3) (unhide B4) (unhide B5) b6 (unhide O1) (unhide O2) (unhide O3) (unhide O4) (unhide O5) o6
        have bY := bnext (bnext (bnext (bnext (bnext (unhide B1) (unhide B2)) (unhide B3)) (unhide B4)) (unhide B5)) b6
        obtain ⟨Z, hZ⟩ : ∃ Z, Y6.alloc (.cells #[.slice a1 nm c1, .slice a2 nm c2, .slice a3 nj c3, .slice a4 nj c4, .slice a5 nl c5, .slice a6 nl c6] 29) = Z := ⟨_, rfl⟩
        rw [hZ] at r6
        have bZ : Below X3.heap.size X3 Z := by rw [← hZ]; exact bnext bY (ballc (Below.refl _ _) _)
        have hl6 : ∀ q, q < 6 → (v6 Lm Lm Lj Lj Ll Ll q).length ≤ 16 := fun q hq => by
          have := unhide LL
          match q, hq with
          | 0, _ => exact this.1
          | 1, _ => exact this.1
          | 2, _ => exact this.2.1
          | 3, _ => exact this.2.1
          | 4, _ => exact this.2.2
          | 5, _ => exact this.2.2
        have HO : Hid (∃ v C, O6 X3.heap.size Z Y6.heap.size 0 0 v C) := ⟨_, _, O6.start r6 hl6⟩
        have HZ := hide bZ
        clear r6 bY bZ hl6 o6 b6 B1 B2 B3 B4 B5 O1 O2 O3 O4 O5 K8
        go_wp2
        generalize Y6.heap.size = O at *
        obtain ⟨B, hB⟩ : ∃ B, X3.heap.size = B := ⟨_, rfl⟩
        rw [hB] at HO
        have HB0 := hide hB
        clear hB
        go_loopw [9] (fun iv wr => ∃ j : Nat, iv = .int .i64 (j : Nat) ∧ j ≤ 6 ∧ Hid ((∃ v C, O6 B wr O j 0 v C) ∧ Below X3.heap.size X3 wr)) (fun iv _ => 6 - (RowKit.intOf iv).toNat)
        case atStart => exact ⟨0, rfl, by omega, hide ⟨unhide HO, unhide HZ⟩⟩
        case round =>
          obtain ⟨j, rfl, hj, HJ⟩ := hrel
          clear HO HZ hZ
          by_cases hlj : j < 6
          · have hlj' : (j : Int) < 6 := by omega
            go_wp2
            go_loopw [10] (fun iv wr => ∃ (i : Nat), iv = .int .i64 (i : Nat) ∧ Hid ((∃ v C, O6 B wr O j i v C ∧ i ≤ (C j).length) ∧ Below X3.heap.size X3 wr) ∧ i ≤ 200) (fun iv _ => 300 - (RowKit.intOf iv).toNat)
            case atStart => exact ⟨0, rfl, hide ⟨by obtain ⟨⟨v, C, h⟩, _⟩ := unhide HJ; exact ⟨v, C, h, Nat.zero_le _⟩, (unhide HJ).2⟩, by omega⟩
            case round =>
              obtain ⟨i2, rfl, HI, hi2⟩ := hrel
              clear HJ
              obtain ⟨⟨v, C, h6, hle⟩, hbel⟩ := unhide HI
              obtain ⟨av, cv, ev, cO, fO, lO, hln6⟩ := h6.at hlj
              have Hev := hide ev
              have H6 := hide h6
              have HBel := hide hbel
              obtain ⟨n, hn⟩ : ∃ n, (C j).length = n := ⟨_, rfl⟩
              have Hn := hide hn
              rw [hn] at cO hle hln6
              clear h6 hbel ev hn HI
              by_cases hin : i2 < n
              · have hin' : (i2 : Int) < (n : Int) := by omega
                have hin2 : i2 < (C j).length := by rw [unhide Hn]; exact hin
                obtain ⟨g, rfl, ce, fe, hlo, hgt⟩ := (unhide H6).el hlj (unhide Hev) (List.getElem?_eq_getElem hin2)
                have H7 := hide ((unhide H6).put hlj (unhide Hev) hin2)
                have B7 : Hid (Below X3.heap.size X3 (wr.setCell ⟨g, i2, none⟩ (.int .i64 (100 + (j : Int))))) := (unhide HBel).setCell (show X3.heap.size ≤ g by rw [unhide HB0]; exact hlo) _
                have hne : g ≠ O := fun e => by
                  subst e
                  exact own_ne_box ((unhide H6).r.row j hlj) (unhide H6).r.out (by decide) (by rw [unhide Hev]; rfl)
                generalize (C j)[i2] = x0 at *
                clear hlo H6
                go_wp2
                go_roundw
                case rel => exact ⟨i2 + 1, by go_num, hide ⟨⟨v, _, unhide H7, by rw [upd_same, List.length_set, unhide Hn]; omega⟩, unhide B7⟩, by omega⟩
                case measure => show 300 - ((i2 : Int) + 1).toNat < 300 - ((i2 : Nat) : Int).toNat; omega
              · obtain rfl : i2 = n := by omega
                have hin' : ¬ (i2 : Int) < (i2 : Int) := by omega
                have h7 : O6 B wr O j (C j).length v C := by rw [unhide Hn]; exact unhide H6
                have hBw : B ≤ wr.heap.size := by rw [← unhide HB0]; exact (unhide HBel).size
                obtain ⟨a', c', W', hap, hbx, hkp, hfin⟩ := h7.app hBw hlj
                rw [unhide Hn, unhide Hev, unhide Hn] at hap
                rw [unhide Hn] at hfin
                have Hap := hide hap
                have hlO := h7.r.lo
                have B8 : Hid (Below X3.heap.size X3 (W'.setCell ⟨O, j, none⟩ (.slice a' (i2 + 1) c'))) := (hkp.below (unhide HBel) (fun q hq => by rw [unhide HB0]; exact hq)).setCell (show X3.heap.size ≤ O by rw [unhide HB0]; exact hlO) _
                have F8 := hide hfin
                have cO' := hbx.cell j _ (box6_at v j hlj)
                rw [unhide Hev, unhide Hn] at cO'
                have fO' := hbx.frozen j
                have lO' := hbx.lt
                clear hap hbx hkp hfin h7 H6 Hev Hn HBel hlO
                go_wp2_with (at_builtin; refine wpList_append_eq rfl _ _ _ _ rfl _ _ _ _ rfl rfl (unhide Hap) ?_)
                go_roundw
                case rel => exact ⟨j + 1, by go_num, by omega, hide ⟨unhide F8, unhide B8⟩⟩
                case measure => show 6 - ((j : Int) + 1).toNat < 6 - ((j : Nat) : Int).toNat; omega
          · obtain rfl : j = 6 := by omega
            go_wp2
            go_loopw [11] (fun iv wr => ∃ k : Nat, iv = .int .i64 (k : Nat) ∧ k ≤ 6 ∧ Hid ((∃ v C, O6 B wr O 6 0 v C) ∧ Below X3.heap.size X3 wr)) (fun iv _ => 6 - (RowKit.intOf iv).toNat)
            case atStart => exact ⟨0, rfl, by omega, HJ⟩
            case round =>
              obtain ⟨k, rfl, hk, HQ⟩ := hrel
              clear HJ
              by_cases hlk : k < 6
              · have hlk' : (k : Int) < 6 := by omega
                go_wp2
                go_loopw [12] (fun iv wr => ∃ (i : Nat), iv = .int .i64 (i : Nat) ∧ Hid ((∃ v C, O6 B wr O 6 0 v C) ∧ Below X3.heap.size X3 wr) ∧ i ≤ 200) (fun iv _ => 300 - (RowKit.intOf iv).toNat)
                case atStart => exact ⟨0, rfl, HQ, by omega⟩
                case round =>
                  obtain ⟨i2, rfl, HI, hi2⟩ := hrel
                  clear HQ
                  obtain ⟨⟨v, C, h6⟩, hbel⟩ := unhide HI
                  obtain ⟨av, cv, ev, cO, fO, lO, hln6⟩ := h6.at hlk
                  have hdn := h6.dn k (by omega) hlk
                  by_cases hin2 : i2 < (C k).length
                  · obtain ⟨g, rfl, ce, fe, hlo, hgt⟩ := h6.el hlk ev (done_at hdn hin2)
                    obtain ⟨n, hn⟩ : ∃ n, (C k).length = n := ⟨_, rfl⟩
                    rw [hn] at cO hln6 hin2 ce
                    have hin' : (i2 : Int) < (n : Int) := by omega
                    clear h6 hbel ev hn hdn hlo
                    by_cases hin3 : i2 + 1 < n
                    · have hin3' : (i2 : Int) + 1 < (n : Int) := by omega
                      have hin4 : ((i2 : Int) + 1 == (n : Int)) = false := by rw [beq_eq_false_iff_ne]; omega
                      rw [if_pos hin3] at ce
                      have hq1 : (100 + (k : Int) != 100 + (k : Int)) = false := by simp
                      go_wp2
                      go_roundw
                      case rel => exact ⟨i2 + 1, by go_num, HI, by omega⟩
                      case measure => show 300 - ((i2 : Int) + 1).toNat < 300 - ((i2 : Nat) : Int).toNat; omega
                    · have hin3' : ¬ (i2 : Int) + 1 < (n : Int) := by omega
                      have hin4 : ((i2 : Int) + 1 == (n : Int)) = true := by rw [beq_iff_eq]; omega
                      rw [if_neg hin3] at ce
                      have hq1 : (200 + (k : Int) != 200 + (k : Int)) = false := by simp
                      go_wp2
                      go_roundw
                      case rel => exact ⟨i2 + 1, by go_num, HI, by omega⟩
                      case measure => show 300 - ((i2 : Int) + 1).toNat < 300 - ((i2 : Nat) : Int).toNat; omega
                  · obtain ⟨n, hn⟩ : ∃ n, (C k).length = n := ⟨_, rfl⟩
                    rw [hn] at cO hln6 hin2
                    have hin' : ¬ (i2 : Int) < (n : Int) := by omega
                    clear h6 hbel ev hn hdn
                    go_wp2
                    go_roundw
                    case rel => exact ⟨k + 1, by go_num, by omega, HI⟩
                    case measure => show 6 - ((k : Int) + 1).toNat < 6 - ((k : Nat) : Int).toNat; omega
              · obtain rfl : k = 6 := by omega
                have K9 := hide ((unhide K3).below (unhide HQ).2)
                have RX : Hid (RN wr (.slice xa nm xc) Lm ∧ RN wr (.slice ya nj yc) Lj ∧ RN wr (.slice za nl zc) Ll) := ⟨(unhide XY).1.below (unhide HQ).2, (unhide XY).2.1.below (unhide HQ).2, (unhide XY).2.2.below (unhide HQ).2⟩
                clear HQ XY K3
                go_wp2_with fail
                refine (unhide M _ (unhide K9)).mono ?_
                rintro e V1 ⟨a1', c1', rfl, o1, b1⟩
                have KA := hide ((unhide K9).below b1)
                have RA : Hid (RN V1 (.slice xa nm xc) Lm ∧ RN V1 (.slice ya nj yc) Lj ∧ RN V1 (.slice za nl zc) Ll) := ⟨(unhide RX).1.below b1, (unhide RX).2.1.below b1, (unhide RX).2.2.below b1⟩
                have HI := hide (unhide T1 V1 a1' xa c1' xc (OwN.row o1) (unhide RA).1)
                clear o1 b1 K9 RX
                go_wp2_with fail
                refine (unhide HI).mono ?_
                rintro e V2 ⟨rfl, b2⟩
                have KB := hide ((unhide KA).below b2)
                have RB2 : Hid (RN V2 (.slice ya nj yc) Lj ∧ RN V2 (.slice za nl zc) Ll) := ⟨(unhide RA).2.1.below b2, (unhide RA).2.2.below b2⟩
                clear b2 KA RA HI
                go_wp2_with fail
                refine (unhide J _ (unhide KB)).mono ?_
                rintro e V3 ⟨a3', c3', rfl, o3, b3⟩
                have KC := hide ((unhide KB).below b3)
                have RC2 : Hid (RN V3 (.slice ya nj yc) Lj ∧ RN V3 (.slice za nl zc) Ll) := ⟨(unhide RB2).1.below b3, (unhide RB2).2.below b3⟩
                have HI := hide (unhide T2 V3 a3' ya c3' yc (OwN.row o3) (unhide RC2).1)
                clear o3 b3 KB RB2
                go_wp2_with fail
                refine (unhide HI).mono ?_
                rintro e V4 ⟨rfl, b4⟩
                have KD := hide ((unhide KC).below b4)
                have RD2 := hide ((unhide RC2).2.below b4)
                clear b4 KC RC2 HI
                go_wp2_with fail
                refine (unhide L _ (unhide KD)).mono ?_
                rintro e V5 ⟨a5', c5', rfl, o5, b5⟩
                have KE := hide ((unhide KD).below b5)
                have HI := hide (unhide T3 V5 a5' za c5' zc (OwN.row o5) ((unhide RD2).below b5))
                clear o5 b5 KD RD2
                go_wp2_with fail
                refine (unhide HI).mono ?_
                rintro e V6 ⟨rfl, b6⟩
                have KF := hide ((unhide KE).below b6)
                clear b6 KE HI
                go_wp2_with fail
                refine (unhide HK _).mono ?_
                rintro e V7 ⟨rfl, b7⟩
                go_wp2
                go_ret
                exact ⟨rfl, bnext (unhide KF).bel b7⟩

theorem own : ownKnob Try.prog.godebug = none := by kernel_rfl
theorem laidOut2 : laidOutB Try.prog = true := by kernel_rfl

set_option maxRecDepth 100000 in
theorem lifted (os : Os) (started : os.Started) (H : Type) (enc : TypeId × Value → H) :
    ReturnsInHanded {} Try.checked os 3 .any (Rows.rollOwnSpec.pre6 enc Try.prog Try.f3 Rows.rollOwnRow.domain false) (Rows.rollOwnSpec.post enc Try.prog Try.f3 false true false false) := by
  refine returnsInHanded_of_change (C := Try.checked) own started (by kernel_rfl) Try.func3
    (ChangeSpec.witness6 (enc := enc) (C := Try.checked) false ⟨#[], #[.slice none 0 0], []⟩ 8 (by kernel_rfl) (by kernel_rfl) (by kernel_rfl) (by kernel_rfl)) ?_
  intro W base args ds gs before hval0 hW hcnd _
  have hval : ∀ (j : Nat) t v, Try.f3.params[j]? = some t → args[j]? = some v → Value.okWide Try.prog W .any base t v := hval0
  have hW' := hW
  obtain ⟨p, q, hA0, hV, rfl, hfz, hnd⟩ := hW
  have hA : DataW.TrodAll enc Try.prog W 0 (fun _ => true) true Try.f3.params.toList args.toList ds p := hA0
  rw [Try.params3] at hA hval
  obtain ⟨v0, vs0, d0, ds0, p0, q0, hargs, rfl, rfl, h0, r0⟩ := trodAll_cons hA
  obtain ⟨rfl, rfl, rfl⟩ := trodAll_nil r0
  obtain rfl : args = #[v0] := by cases args; simp_all
  obtain ⟨rfl, rfl⟩ := trodVars_none hV
  obtain ⟨a0, len0, cap0, rfl⟩ := okWide_slice Try.underlying22 (hval 0 22 v0 rfl rfl)
  have k0 := h0
  have lt0 : ∀ x ∈ p0, x.block < W.heap.size := by obtain ⟨m, hm⟩ := k0; exact DataW.trod_lt m _ _ _ hm
  obtain ⟨z0, w0⟩ : ∃ l : List Stp, RSt W (.slice a0 len0 cap0) l ∧ l.length = len0 ∧ len0 ≤ maxLen ∧ ∀ e ∈ l, StW e := by
    obtain ⟨fuel, hf⟩ := h0
    simp only [Value.cells] at hf
    exact open_steps hf
  clear hA0 hval0
  refine (walk a0 len0 cap0 z0 W w0).mono fun e W' ⟨he, bel⟩ => ?_
  subst he
  exact ⟨_, rfl, _, _, _, [], _, [], hW', trodAll_mk1 (shut_bool Try.underlying4 _), (trodAll_cons_mk (Below.trod laidOut2 (by kernel_rfl) (of_decide_eq_true (by kernel_rfl)) k0 bel lt0) trodAll_mk0), rfl, bel.frame _, fun h => by cases h⟩

theorem over : Rows.rollOwnRow.holds Try.pinned (OpenSpec.ofChange Rows.rollOwnSpec) :=
  OpenClaim.holds_of_wide 3 Try.f3 rfl rfl rfl rfl rfl rfl rfl ⟨rfl, rfl, rfl, rfl, rfl⟩ rfl rfl rfl rfl rfl (by kernel_rfl) Try.func3 (by kernel_rfl)
    (of_decide_eq_true (by kernel_rfl)) (by unfold Func.isWrapper; first | (rw [if_pos (by decide +kernel)]; kernel_rfl) | (rw [if_neg (by decide +kernel)]; exact ⟨rfl, rfl⟩))
    (fun os started H enc _ => lifted os started H enc)

end LRollOwn

theorem rollOwn_holds : Rows.RollOwnSaid := LRollOwn.over

end Go.Proofs.Ytjcdfjnlpfineab
