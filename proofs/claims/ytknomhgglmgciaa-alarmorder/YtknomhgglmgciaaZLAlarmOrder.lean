/-
  Chapter 15's law AlarmOrder returns true for every two numbers, every script and every tick, and leaves its argument as it was; no condition.
-/
import Derived.Test.YtknomhgglmgciaaRows
import Derived.WalkKit
import Derived.ProofKit
import Derived.OpenShut
import Derived.ShutString
import Derived.ChangeOld
import Derived.Below
import Derived.Test.YtknomhgglmgciaaZAO1
import Derived.Deep.RegionWith
set_option linter.unusedVariables false
set_option linter.unusedSimpArgs false
namespace Go.Proofs.Ytknomhgglmgciaa
namespace LAlarmOrder
open Go.ChangeShapes Go.WideShapes Go.ChangeAt Go.RowKit Go.Lib
open Go.ChangeMaps (open_string shut_string)

theorem nxt_none {L : List Tm} (h : minL L = none) : nxtA L = .tuple #[.int .i64 0, .int .i64 0, .bool false] := by unfold nxtA; rw [h]
theorem nxt_some {L : List Tm} {x : Tm} (h : minL L = some x) : nxtA L = .tuple #[.int .i64 x.key, .int .i64 x.due, .bool true] := by unfold nxtA; rw [h]
/-- within the loop that takes away -/
structure OK2 (w : World) (b b' n : Nat) (ls ms now : Int) (S : List Tm) (u : Value) (k : Nat) (wr : World) (B M : List Tm) (ks : List Int) : Prop where
  ot : OT w wr b n b' n ls ms S B u ks
  tk : TkI ls ms now S ks B M
  lb : B.length + k = S.length
  lk : ks.length = k
set_option maxRecDepth 100000 in
set_option maxHeartbeats 16000000 in
theorem walk (ls ms : Int) (a0 : Option Addr) (len0 cap0 : Nat) (ss : List Stp) (now : Int) (w : World) (h0 : (Lit.int .i64 ls).wf = true) (h1 : (Lit.int .i64 ms).wf = true) (w0 : RSt w (.slice a0 len0 cap0) ss ∧ ss.length = len0 ∧ len0 ≤ maxLen ∧ ∀ e ∈ ss, StW e) (h3 : (Lit.int .i64 now).wf = true) :
    Calls Try.prog 8 #[.int .i64 ls, .int .i64 ms, .slice a0 len0 cap0, .int .i64 now] w fun e W => e = .returned (.bool true) ∧ Below w.heap.size w W := by
  obtain ⟨hr, hln, hmx, hst⟩ := w0
  unfold maxLen at hmx
  have HN := hide (New_in ls ms w)
  have HN2 := hide (fun W => New_in ls ms W)
  have HK := hide (fun W => known_in W)
  clear h0 h1 h3
  by_cases hbig : 400 < len0
  · have hbig' : (400 : Int) < (len0 : Int) := by omega
    clear HN HN2 hr hln hst
    go_enter Try.func8, Try.ntmps8
    go_wp2_with fail
    refine (unhide HK _).mono ?_
    rintro r W2 ⟨rfl, hb2⟩
    go_wp2
    go_ret
    exact ⟨rfl, hb2⟩
  have hbig' : ¬ (400 : Int) < (len0 : Int) := by omega
  have Hln := hide hln
  have Hr := hide hr
  have Hst := hide hst
  clear hr hst hln
  obtain ⟨B, hB⟩ : ∃ B, newB ls ms = B := ⟨_, rfl⟩
  have HB := hide hB
  clear hB
  go_enter Try.func8, Try.ntmps8
  go_wp2_with fail
  refine (unhide HN).mono ?_
  rintro e W1 ⟨b1, h1⟩
  rw [unhide HB] at h1
  clear HN
  cases B with
  | false =>
    rcases h1 with ⟨h, _⟩ | ⟨_, rfl⟩
    · cases h
    have B1 := hide b1
    clear b1
    go_wp2_with fail
    refine (unhide HN2 _).mono ?_
    rintro e W2 ⟨b2, h2⟩
    rw [unhide HB] at h2
    rcases h2 with ⟨h, _⟩ | ⟨_, rfl⟩
    · cases h
    have B2 := hide (bnext (unhide B1) b2)
    clear HN2 b2 B1
    go_wp2_with fail
    refine (unhide HK _).mono ?_
    rintro e W4 ⟨rfl, b4⟩
    go_wp2
    go_ret
    exact ⟨rfl, bnext (unhide B2) b4⟩
  | true =>
    rcases h1 with ⟨_, rfl, f1⟩ | ⟨h, _⟩
    rotate_left
    · cases h
    have B1 := hide b1
    have F1 := hide f1
    clear b1 f1
    go_wp2_with fail
    refine (unhide HN2 _).mono ?_
    rintro e W2 ⟨b2, h2⟩
    rw [unhide HB] at h2
    rcases h2 with ⟨_, rfl, f2⟩ | ⟨h, _⟩
    rotate_left
    · cases h
    have HJ := hide (OJ.new (unhide B1) b2 (unhide F1) f2)
    clear HN2 b2 f2 B1 F1
    generalize w.heap.size + 1 = b at *
    generalize W1.heap.size + 1 = b' at *
    go_wp2
    go_loopw [13] (fun iv wr => ∃ (i : Nat) (S : List Tm), iv = .int .i64 (i : Nat) ∧ i ≤ len0 ∧ Hid (OJ w wr b b' i ls ms S)) (fun iv _ => len0 - (RowKit.intOf iv).toNat)
    case atStart => exact ⟨0, _, rfl, by omega, HJ⟩
    case round =>
      obtain ⟨i, S, rfl, hi, HP⟩ := hrel
      clear HJ
      by_cases hlt : i < len0
      · have hlt' : (i : Int) < (len0 : Int) := by omega
        have hls : i < ss.length := by rw [unhide Hln]; exact hlt
        obtain ⟨s, hx⟩ : ∃ s, ss[i]? = some s := ⟨_, List.getElem?_eq_getElem hls⟩
        obtain ⟨b0, off, rfl, hb0, q0, q1, q2⟩ := RSt.at ((unhide Hr).below (unhide HP).2) hx
        have hw := unhide Hst s (List.mem_of_getElem? hx)
        have hk := hw.key
        have gl := (unhide HP).1.gl
        have hll := (unhide HP).1.ln
        have hP : ∀ j, (w.heap.size ≤ j ∧ j < wr.heap.size) → j < wr.heap.size := fun j hj => hj.2
        have K0 := hide ((unhide HP).start (s := s))
        obtain ⟨X0, hX0⟩ : ∃ X0, wr.alloc (.cells #[.int .i64 s.kind, .int .i64 s.key, .int .i64 s.now] 35) = X0 := ⟨_, rfl⟩
        rw [show wr.alloc (.cells (stC s) 35) = X0 from hX0] at K0
        obtain ⟨y0, y1, y2⟩ := (unhide K0).y
        have HBW := hide (unhide HP).2
        clear hx hw
        by_cases kk : s.kind = 1
        · have hk1 : (s.kind == 1) = true := by simp [kk]
          have hk2 : (s.kind == 2) = false := by simp [kk]
          have hk3 : (s.kind == 3) = false := by simp [kk]
          have hk4 : (s.kind == 4) = false := by simp [kk]
          have H1 := hide ((unhide K0).set1 hP (by omega) hk)
          have H2 := hide (fun X L' (h : EK (fun j => w.heap.size ≤ j ∧ j < wr.heap.size) wr s b (i + 1) b' i ls ms L' S X) => h.swap.set1 hP (by omega) hk)
          clear kk
          go_wp2_with fail
          refine (unhide H1).mono ?_
          rintro e X1 ⟨rfl, D1⟩
          obtain ⟨z0, z1, z2⟩ := D1.y
          have zl := D1.size
          replace D1 := hide D1
          clear H1 y0 y1 y2
          go_wp2_with fail
          refine (unhide H2 _ _ (unhide D1)).mono ?_
          rintro e X2 ⟨rfl, D2⟩
          have D3 := hide D2.swap
          clear H2 z0 z1 z2 D2
          go_wp2
          go_roundw
          case measure => show len0 - ((i : Int) + 1).toNat < len0 - ((i : Nat) : Int).toNat; omega
          case rel => exact ⟨i + 1, _, by go_num, by omega, hide ((unhide D3).fin (unhide HBW) (by omega) (by omega))⟩
        have n1 := kk
        clear kk
        by_cases kk : s.kind = 2
        · clear n1
          have hk1 : (s.kind == 1) = false := by simp [kk]
          have hk2 : (s.kind == 2) = true := by simp [kk]
          have hk3 : (s.kind == 3) = false := by simp [kk]
          have hk4 : (s.kind == 4) = false := by simp [kk]
          have H1 := hide ((unhide K0).rst1 hP (by omega) hk)
          have H2 := hide (fun X L' (h : EK (fun j => w.heap.size ≤ j ∧ j < wr.heap.size) wr s b (i + 1) b' i ls ms L' S X) => h.swap.rst1 hP (by omega) hk)
          clear kk
          go_wp2_with fail
          refine (unhide H1).mono ?_
          rintro e X1 ⟨rfl, D1⟩
          obtain ⟨z0, z1, z2⟩ := D1.y
          have zl := D1.size
          replace D1 := hide D1
          clear H1 y0 y1 y2
          go_wp2_with fail
          refine (unhide H2 _ _ (unhide D1)).mono ?_
          rintro e X2 ⟨rfl, D2⟩
          have D3 := hide D2.swap
          clear H2 z0 z1 z2 D2
          go_wp2
          go_roundw
          case measure => show len0 - ((i : Int) + 1).toNat < len0 - ((i : Nat) : Int).toNat; omega
          case rel => exact ⟨i + 1, _, by go_num, by omega, hide ((unhide D3).fin (unhide HBW) (by omega) (by omega))⟩
        have n2 := kk
        clear kk
        by_cases kk : s.kind = 3
        · clear n1 n2
          have hk1 : (s.kind == 1) = false := by simp [kk]
          have hk2 : (s.kind == 2) = false := by simp [kk]
          have hk3 : (s.kind == 3) = true := by simp [kk]
          have hk4 : (s.kind == 4) = false := by simp [kk]
          have H1 := hide ((unhide K0).off1 hP (by omega) hk)
          have H2 := hide (fun X L' (h : EK (fun j => w.heap.size ≤ j ∧ j < wr.heap.size) wr s b (i) b' i ls ms L' S X) => h.swap.off1 hP (by omega) hk)
          clear kk
          go_wp2_with fail
          refine (unhide H1).mono ?_
          rintro e X1 ⟨rfl, D1⟩
          obtain ⟨z0, z1, z2⟩ := D1.y
          have zl := D1.size
          replace D1 := hide D1
          clear H1 y0 y1 y2
          go_wp2_with fail
          refine (unhide H2 _ _ (unhide D1)).mono ?_
          rintro e X2 ⟨rfl, D2⟩
          have D3 := hide D2.swap
          clear H2 z0 z1 z2 D2
          go_wp2
          go_roundw
          case measure => show len0 - ((i : Int) + 1).toNat < len0 - ((i : Nat) : Int).toNat; omega
          case rel => exact ⟨i + 1, _, by go_num, by omega, hide ((unhide D3).fin (unhide HBW) (by omega) (by omega))⟩
        have n3 := kk
        clear kk
        by_cases kk : s.kind = 4
        · clear n1 n2 n3
          have hk1 : (s.kind == 1) = false := by simp [kk]
          have hk2 : (s.kind == 2) = false := by simp [kk]
          have hk3 : (s.kind == 3) = false := by simp [kk]
          have hk4 : (s.kind == 4) = true := by simp [kk]
          have hlk : (duA ms s.now S).1.length ≤ 1000000 := du_len gl (by omega)
          have H1 := hide (fun X (h : EK (fun j => w.heap.size ≤ j ∧ j < wr.heap.size) wr s b i b' i ls ms S S X) => h.due1 hP (by omega))
          have H2 := hide (fun X Y L' v ks (h : EK (fun j => w.heap.size ≤ j ∧ j < wr.heap.size) wr s b i b' i ls ms L' S X) ho hq => h.due2 (Y := Y) (v := v) (ks := ks) ho hq hP (by omega))
          have H3 := hide (fun X u v (h : EK (fun j => w.heap.size ≤ j ∧ j < wr.heap.size) wr s b i b' i ls ms (duA ms s.now S).2 (duA ms s.now S).2 X) (hu : RN X u (duA ms s.now S).1) (hv : RN X v (duA ms s.now S).1) => h.ints hu hv hlk)
          clear kk
          have bxl := (unhide K0).size
          generalize hks : (duA ms s.now S).1 = ks at *
          generalize hM2 : (duA ms s.now S).2 = M2 at *
          go_wp2
          obtain ⟨y0, y1, y2⟩ := ((unhide K0).below (Below.refl _ X0).drew).y
          go_region_with (first | (go_at_call 21; refine (unhide H3 _ _ _ (unhide D2) (unhide r1) (unhide r2)).mono ?_; rintro e X3 ⟨rfl, D3⟩; replace D3 := hide D3) | (go_at_call 19; refine (unhide H2 _ _ _ _ _ (unhide D1) (unhide o1) (unhide p1)).mono ?_; rintro e X2 ⟨a2, c2, rfl, r1, r2, D2⟩; replace D2 := hide D2; replace r1 := hide r1; replace r2 := hide r2) | (go_at_call 19; refine (unhide H1 _ ((unhide K0).below (Below.refl _ X0).drew)).mono ?_; rintro e X1 ⟨a1, c1, rfl, o1, p1, D1⟩; obtain ⟨z0, z1, z2⟩ := D1.y; have zl := D1.size; replace D1 := hide D1; replace o1 := hide o1; replace p1 := hide p1))
          all_goals (
            clear H1 H2 H3 K0 y0 y1 y2 z0 z1 z2
            go_wp2
            go_roundw
            case measure => show len0 - ((i : Int) + 1).toNat < len0 - ((i : Nat) : Int).toNat; omega
            case rel => exact ⟨i + 1, _, by go_num, by omega, hide ((unhide D3).fin (unhide HBW) (by omega) (by omega))⟩)
        have n4 := kk
        clear kk
        have hk1 : (s.kind == 1) = false := by simp [n1, n2, n3, n4]
        have hk2 : (s.kind == 2) = false := by simp [n1, n2, n3, n4]
        have hk3 : (s.kind == 3) = false := by simp [n1, n2, n3, n4]
        have hk4 : (s.kind == 4) = false := by simp [n1, n2, n3, n4]
        clear n1 n2 n3 n4
        go_wp2
        go_roundw
        case measure => show len0 - ((i : Int) + 1).toNat < len0 - ((i : Nat) : Int).toNat; omega
        case rel => exact ⟨i + 1, _, by go_num, by omega, hide ((unhide K0).fin (unhide HBW) (by omega) (by omega))⟩
      · have hlt' : ¬ (i : Int) < (len0 : Int) := by omega
        obtain ⟨n, hn⟩ : ∃ n, i = n := ⟨_, rfl⟩
        rw [hn] at HP
        have hn4 : n ≤ 400 := by omega
        clear hn
        have gl := (unhide HP).1.gl
        have hll := (unhide HP).1.ln
        have HT0 := hide (OT.start (unhide HP))
        by_cases ht : 0 ≤ now ∧ now ≤ 2147483647
        · have t1 : ¬ now < 0 := by omega
          have t2 : ¬ 2147483647 < now := by omega
          have HLn := hide ((unhide HP).1.len)
          obtain ⟨N, hN⟩ : ∃ N, S.length = N := ⟨_, rfl⟩
          rw [hN] at HLn
          have HJ2 : Hid (OK2 w b b' n ls ms now S (.slice none 0 0) 0 wr S S []) := ⟨unhide HT0, TkI.start gl, by omega, rfl⟩
          have HNN := hide hN
          have Hgl := hide gl
          have Hht := hide ht
          have hN4 : N ≤ 400 := by omega
          clear gl hll hN HP HT0 ht
          go_wp2_with fail
          refine (unhide HLn).mono ?_
          rintro e W5 ⟨rfl, rfl⟩
          clear HLn
          go_wp2
          go_loopw [16, 17] (fun u kv wr => ∃ (k : Nat) (B M : List Tm) (ks : List Int), kv = .int .i64 (k : Nat) ∧ k ≤ N ∧ Hid (OK2 w b b' n ls ms now S u k wr B M ks)) (fun _ kv _ => N + 1 - (RowKit.intOf kv).toNat)
          case atStart => exact ⟨0, S, S, [], rfl, Nat.zero_le _, HJ2⟩
          case round =>
            clear HJ2
            obtain ⟨k, B, M, ks, rfl, hkN, HQ⟩ := hrel
            have hkN' : (k : Int) ≤ (N : Int) := by omega
            have J := unhide HQ
            obtain ⟨ua, uc, rfl⟩ := J.ot.own.form
            have HX := hide J.ot.q.swap.next
            cases hm : minL B with
            | none =>
              rw [nxt_none hm] at HX
              have hfin := J.tk.fin (unhide Hht) (fun x hx => by rw [hm] at hx; cases hx)
              have Hfin := hide hfin
              clear J hm hfin
              go_wp2_with fail
              refine (unhide HX).mono ?_
              rintro e W6 ⟨rfl, b6⟩
              have J6 := hide ((unhide HQ).ot.below b6)
              clear HX b6
              have HDu := hide ((unhide J6).due (by omega) now)
              rw [unhide Hfin] at HDu
              obtain ⟨d2, _⟩ := du_spec (unhide Hht) (unhide Hgl)
              rw [d2] at HDu
              have hksl : ks.length ≤ 1000000 := by have := (unhide HQ).lk; omega
              have a2l : (afterL ms now S).length = N := by rw [after_len]; exact unhide HNN
              have a2d : duA ms now (afterL ms now S) = ([], afterL ms now S) := du_again (after_gt (unhide Hgl))
              have a2m : ∀ x, minL (afterL ms now S) = some x → now < x.due := fun x hx => after_gt (unhide Hgl) x (minL_some hx).1
              have HA2 := hide (And.intro a2l a2m)
              have HD2 := hide (fun W (h : OT w W b n b' n ls ms (afterL ms now S) B (.slice ua ks.length uc) ks) => h.due (by omega) now)
              rw [a2d] at HD2
              simp only [List.length_nil] at HD2
              generalize afterL ms now S = S2 at *
              clear d2 a2d a2l a2m J6
              go_wp2_with fail
              refine (unhide HDu).mono ?_
              rintro e W7 ⟨ra, rc, rfl, r7, j7⟩
              have HI := hide (ints_in _ _ ks ks W7 r7 j7.own.row hksl hksl)
              rw [decide_eq_true rfl] at HI
              have J7 := hide j7
              clear HDu r7 j7
              go_wp2_with fail
              refine (unhide HI).mono ?_
              rintro e W8 ⟨rfl, b8⟩
              have J8 := hide ((unhide J7).below b8)
              clear HI J7 b8
              have HL8 := hide ((unhide J8).q.len)
              rw [(unhide HA2).1] at HL8
              go_wp2_with fail
              refine (unhide HL8).mono ?_
              rintro e W9 ⟨rfl, rfl⟩
              clear HL8
              go_wp2_with fail
              refine (unhide HD2 _ (unhide J8)).mono ?_
              rintro e W9 ⟨rb, rd, rfl, _, j9⟩
              have HX9 := hide (j9.q.next)
              have J9 := hide j9
              clear HD2 J8 j9
              cases hm2 : minL S2 with
              | none =>
                have hS2 : S2 = [] := minL_none hm2
                have hN0 : N = 0 := by rw [← (unhide HA2).1, hS2]; rfl
                rw [nxt_none hm2] at HX9
                subst hN0
                clear hm2 HA2 hS2
                go_wp2_with fail
                refine (unhide HX9).mono ?_
                rintro e WA ⟨rfl, bA⟩
                have JA := hide ((unhide J9).below bA)
                clear HX9 bA
                go_wp2_with fail
                refine (unhide HK _).mono ?_
                rintro e WB ⟨rfl, bB⟩
                go_wp2
                go_ret
                exact ⟨by simp, bnext (unhide JA).bel bB⟩
              | some z =>
                have hz := (unhide HA2).2 z hm2
                have hN0 : 0 < N := by rw [← (unhide HA2).1]; exact List.length_pos_of_mem (minL_some hm2).1
                have hN0' : (0 : Int) < (N : Int) := by omega
                rw [nxt_some hm2] at HX9
                clear hm2 HA2
                go_wp2_with fail
                refine (unhide HX9).mono ?_
                rintro e WA ⟨rfl, bA⟩
                have JA := hide ((unhide J9).below bA)
                clear HX9 bA
                go_wp2_with fail
                refine (unhide HK _).mono ?_
                rintro e WB ⟨rfl, bB⟩
                go_wp2
                go_ret
                exact ⟨by simp, bnext (unhide JA).bel bB⟩
            | some x =>
              rw [nxt_some hm] at HX
              by_cases hd : x.due ≤ now
              · have hd' : ¬ now < x.due := by omega
                obtain ⟨hxm, _⟩ := minL_some hm
                have hk64 := J.ot.q.swap.gl.k64 x hxm
                have hol := offL_len J.ot.q.swap.gl.nod hxm rfl
                obtain ⟨M', htk⟩ := J.tk.more (unhide Hht) J.ot.q.swap.gl hm hd
                have hlk := J.lk
                have hlb := J.lb
                have Hrest := hide (And.intro htk (And.intro hol (And.intro hlk hlb)))
                have HNx := hide hxm
                have hk64' : in64 x.key := hk64
                have hksl : ks.length ≤ 1000000 := by omega
                clear J hm hxm hk64 hol htk hlb hlk
                go_wp2_with fail
                refine (unhide HX).mono ?_
                rintro e W6 ⟨rfl, b6⟩
                have J6 := hide ((unhide HQ).ot.below b6)
                clear HX b6
                obtain ⟨v', W7, hr7, J7⟩ := (unhide J6).app hksl x.key 52
                have HOf := hide (J7.off (by omega) x.key hk64')
                obtain ⟨va, vc, ev⟩ := J7.own.form
                subst ev
                have hl7 : (ks ++ [x.key]).length = ks.length + 1 := by simp
                rw [hl7] at hr7
                replace hr7 := hide hr7
                clear J6 J7 hl7
                go_wp2_with (at_builtin; refine wpList_append_eq rfl _ _ _ _ rfl _ _ _ _ rfl rfl (unhide hr7) ?_)
                refine (unhide HOf).mono ?_
                rintro e W8 ⟨rfl, J8⟩
                replace J8 := hide J8
                clear HOf hr7
                go_wp2
                go_roundw
                case measure => show N + 1 - ((k : Int) + 1).toNat < N + 1 - ((k : Nat) : Int).toNat; omega
                case rel =>
                  obtain ⟨htk, hol, hlk, hlb⟩ := unhide Hrest
                  have hNN := unhide HNN
                  refine ⟨k + 1, offL B x.key, M', ks ++ [x.key], by go_num, by omega, hide ⟨?_, htk, by omega, by simp; exact hlk⟩⟩
                  have := unhide J8
                  simpa using this
              · have hd' : now < x.due := by omega
                have hfin := J.tk.fin (unhide Hht) (fun y hy => by rw [hm] at hy; cases hy; exact hd')
                have Hfin := hide hfin
                clear J hm hfin hd
                go_wp2_with fail
                refine (unhide HX).mono ?_
                rintro e W6 ⟨rfl, b6⟩
                have J6 := hide ((unhide HQ).ot.below b6)
                clear HX b6
                have HDu := hide ((unhide J6).due (by omega) now)
                rw [unhide Hfin] at HDu
                obtain ⟨d2, _⟩ := du_spec (unhide Hht) (unhide Hgl)
                rw [d2] at HDu
                have hksl : ks.length ≤ 1000000 := by have := (unhide HQ).lk; omega
                have a2l : (afterL ms now S).length = N := by rw [after_len]; exact unhide HNN
                have a2d : duA ms now (afterL ms now S) = ([], afterL ms now S) := du_again (after_gt (unhide Hgl))
                have a2m : ∀ x, minL (afterL ms now S) = some x → now < x.due := fun x hx => after_gt (unhide Hgl) x (minL_some hx).1
                have HA2 := hide (And.intro a2l a2m)
                have HD2 := hide (fun W (h : OT w W b n b' n ls ms (afterL ms now S) B (.slice ua ks.length uc) ks) => h.due (by omega) now)
                rw [a2d] at HD2
                simp only [List.length_nil] at HD2
                generalize afterL ms now S = S2 at *
                clear d2 a2d a2l a2m J6
                go_wp2_with fail
                refine (unhide HDu).mono ?_
                rintro e W7 ⟨ra, rc, rfl, r7, j7⟩
                have HI := hide (ints_in _ _ ks ks W7 r7 j7.own.row hksl hksl)
                rw [decide_eq_true rfl] at HI
                have J7 := hide j7
                clear HDu r7 j7
                go_wp2_with fail
                refine (unhide HI).mono ?_
                rintro e W8 ⟨rfl, b8⟩
                have J8 := hide ((unhide J7).below b8)
                clear HI J7 b8
                have HL8 := hide ((unhide J8).q.len)
                rw [(unhide HA2).1] at HL8
                go_wp2_with fail
                refine (unhide HL8).mono ?_
                rintro e W9 ⟨rfl, rfl⟩
                clear HL8
                go_wp2_with fail
                refine (unhide HD2 _ (unhide J8)).mono ?_
                rintro e W9 ⟨rb, rd, rfl, _, j9⟩
                have HX9 := hide (j9.q.next)
                have J9 := hide j9
                clear HD2 J8 j9
                cases hm2 : minL S2 with
                | none =>
                  have hS2 : S2 = [] := minL_none hm2
                  have hN0 : N = 0 := by rw [← (unhide HA2).1, hS2]; rfl
                  rw [nxt_none hm2] at HX9
                  subst hN0
                  clear hm2 HA2 hS2
                  go_wp2_with fail
                  refine (unhide HX9).mono ?_
                  rintro e WA ⟨rfl, bA⟩
                  have JA := hide ((unhide J9).below bA)
                  clear HX9 bA
                  go_wp2_with fail
                  refine (unhide HK _).mono ?_
                  rintro e WB ⟨rfl, bB⟩
                  go_wp2
                  go_ret
                  exact ⟨by simp, bnext (unhide JA).bel bB⟩
                | some z =>
                  have hz := (unhide HA2).2 z hm2
                  have hN0 : 0 < N := by rw [← (unhide HA2).1]; exact List.length_pos_of_mem (minL_some hm2).1
                  have hN0' : (0 : Int) < (N : Int) := by omega
                  rw [nxt_some hm2] at HX9
                  clear hm2 HA2
                  go_wp2_with fail
                  refine (unhide HX9).mono ?_
                  rintro e WA ⟨rfl, bA⟩
                  have JA := hide ((unhide J9).below bA)
                  clear HX9 bA
                  go_wp2_with fail
                  refine (unhide HK _).mono ?_
                  rintro e WB ⟨rfl, bB⟩
                  go_wp2
                  go_ret
                  exact ⟨by simp, bnext (unhide JA).bel bB⟩
        · have htb : tickB now = false := by unfold tickB; rw [decide_eq_false_iff_not]; exact ht
          have hdu : duA ms now S = ([], S) := by unfold duA; rw [htb]; rfl
          have HD := hide ((unhide HT0).due (by omega) now)
          rw [hdu] at HD
          simp only [List.length_nil] at HD
          have Hdu := hide hdu
          clear gl hll HT0 hdu htb
          by_cases t1 : now < 0
          · clear ht
            go_wp2_with fail
            refine (unhide HD).mono ?_
            rintro e W5 ⟨ra, rc, rfl, _, k5⟩
            replace k5 := hide k5
            clear HD
            go_wp2_with fail
            refine (unhide HK _).mono ?_
            rintro e W6 ⟨rfl, b6⟩
            go_wp2
            go_ret
            exact ⟨rfl, bnext (unhide k5).bel b6⟩
          · have t2 : 2147483647 < now := by omega
            clear ht
            go_wp2_with fail
            refine (unhide HD).mono ?_
            rintro e W5 ⟨ra, rc, rfl, _, k5⟩
            replace k5 := hide k5
            clear HD
            go_wp2_with fail
            refine (unhide HK _).mono ?_
            rintro e W6 ⟨rfl, b6⟩
            go_wp2
            go_ret
            exact ⟨rfl, bnext (unhide k5).bel b6⟩

theorem own : ownKnob Try.prog.godebug = none := by kernel_rfl
theorem laidOut2 : laidOutB Try.prog = true := by kernel_rfl

set_option maxRecDepth 100000 in
theorem lifted (os : Os) (started : os.Started) (H : Type) (enc : TypeId × Value → H) :
    ReturnsInHanded {} Try.checked os 8 .any (Rows.alarmOrderSpec.pre6 enc Try.prog Try.f8 Rows.alarmOrderRow.domain false) (Rows.alarmOrderSpec.post enc Try.prog Try.f8 false true false false) := by
  refine returnsInHanded_of_change (C := Try.checked) own started (by kernel_rfl) Try.func8
    (ChangeSpec.witness6 (enc := enc) (C := Try.checked) false ⟨#[], #[.int .i64 0, .int .i64 0, .slice none 0 0, .int .i64 0], []⟩ 8 (by kernel_rfl) (by kernel_rfl) (by kernel_rfl) (by kernel_rfl)) ?_
  intro W base args ds gs before hval0 hW hcnd _
  have hval : ∀ (j : Nat) t v, Try.f8.params[j]? = some t → args[j]? = some v → Value.okWide Try.prog W .any base t v := hval0
  have hW' := hW
  obtain ⟨p, q, hA0, hV, rfl, hfz, hnd⟩ := hW
  have hA : DataW.TrodAll enc Try.prog W 0 (fun _ => true) true Try.f8.params.toList args.toList ds p := hA0
  rw [Try.params8] at hA hval
  obtain ⟨v0, vs0, d0, ds0, p0, q0, hargs, rfl, rfl, h0, r0⟩ := trodAll_cons hA
  obtain ⟨v1, vs1, d1, ds1, p1, q1, rfl, rfl, rfl, h1, r1⟩ := trodAll_cons r0
  obtain ⟨v2, vs2, d2, ds2, p2, q2, rfl, rfl, rfl, h2, r2⟩ := trodAll_cons r1
  obtain ⟨v3, vs3, d3, ds3, p3, q3, rfl, rfl, rfl, h3, r3⟩ := trodAll_cons r2
  obtain ⟨rfl, rfl, rfl⟩ := trodAll_nil r3
  obtain rfl : args = #[v0, v1, v2, v3] := by cases args; simp_all
  obtain ⟨rfl, rfl⟩ := trodVars_none hV
  obtain ⟨a0, rfl, rfl, rfl, w0⟩ := open_int Try.underlying3 (hval 0 3 v0 rfl rfl) h0
  obtain ⟨a1, rfl, rfl, rfl, w1⟩ := open_int Try.underlying3 (hval 1 3 v1 rfl rfl) h1
  obtain ⟨a2, len2, cap2, rfl⟩ := okWide_slice Try.underlying32 (hval 2 32 v2 rfl rfl)
  have k2 := h2
  have lt2 : ∀ x ∈ p2, x.block < W.heap.size := by obtain ⟨m, hm⟩ := k2; exact DataW.trod_lt m _ _ _ hm
  obtain ⟨z2, w2⟩ : ∃ l : List Stp, RSt W (.slice a2 len2 cap2) l ∧ l.length = len2 ∧ len2 ≤ maxLen ∧ ∀ e ∈ l, StW e := by
    obtain ⟨fuel, hf⟩ := h2
    simp only [Value.cells] at hf
    exact open_steps hf
  obtain ⟨a3, rfl, rfl, rfl, w3⟩ := open_int Try.underlying3 (hval 3 3 v3 rfl rfl) h3
  clear hA0 hval0
  refine (walk a0 a1 a2 len2 cap2 z2 a3 W w0 w1 w2 w3).mono fun e W' ⟨he, bel⟩ => ?_
  subst he
  exact ⟨_, rfl, _, _, _, [], _, [], hW', trodAll_mk1 (shut_bool Try.underlying4 _), (trodAll_cons_mk (shut_int Try.underlying3 w0) (trodAll_cons_mk (shut_int Try.underlying3 w1) (trodAll_cons_mk (Below.trod laidOut2 (by kernel_rfl) (of_decide_eq_true (by kernel_rfl)) k2 bel lt2) (trodAll_cons_mk (shut_int Try.underlying3 w3) trodAll_mk0)))), rfl, bel.frame _, fun h => by cases h⟩

theorem over : Rows.alarmOrderRow.holds Try.pinned (OpenSpec.ofChange Rows.alarmOrderSpec) :=
  OpenClaim.holds_of_wide 8 Try.f8 rfl rfl rfl rfl rfl rfl rfl ⟨rfl, rfl, rfl, rfl, rfl⟩ rfl rfl rfl rfl rfl (by kernel_rfl) Try.func8 (by kernel_rfl)
    (of_decide_eq_true (by kernel_rfl)) (by unfold Func.isWrapper; first | (rw [if_pos (by decide +kernel)]; kernel_rfl) | (rw [if_neg (by decide +kernel)]; exact ⟨rfl, rfl⟩))
    (fun os started H enc _ => lifted os started H enc)

end LAlarmOrder

theorem alarmOrder_holds : Rows.AlarmOrderSaid := LAlarmOrder.over

end Go.Proofs.Ytknomhgglmgciaa
