/-
  Chapter 17's law PeerOwn returns true for every window, every push and every script, and leaves its argument as it was; no condition.
-/
import Derived.Test.YtiekholaheddhaaRows
import Derived.WalkKit
import Derived.ProofKit
import Derived.OpenShut
import Derived.ShutString
import Derived.ChangeOld
import Derived.Below
import Derived.Test.YtiekholaheddhaaZPO
import Derived.Deep.CutRange
set_option linter.unusedVariables false
set_option linter.unusedSimpArgs false
namespace Go.Proofs.Ytiekholaheddhaa
namespace LPeerOwn
open Go.ChangeShapes Go.WideShapes Go.ChangeAt Go.RowKit Go.Lib
open Go.ChangeMaps (open_string shut_string)

set_option maxRecDepth 100000 in
set_option maxHeartbeats 8000000 in
theorem walk (ls ms : Int) (a0 : Option Addr) (len0 cap0 : Nat) (ss : List Stp) (w : World) (h0 : (Lit.int .i64 ls).wf = true) (h1 : (Lit.int .i64 ms).wf = true) (w0 : RSt w (.slice a0 len0 cap0) ss ∧ ss.length = len0 ∧ len0 ≤ maxLen ∧ ∀ e ∈ ss, StW e) :
    Calls Try.prog 8 #[.int .i64 ls, .int .i64 ms, .slice a0 len0 cap0] w fun e W => e = .returned (.bool true) ∧ Below w.heap.size w W := by
  obtain ⟨hr, hln, hmx, hst⟩ := w0
  unfold maxLen at hmx
  have HN := hide (fun W => New_in ls ms W)
  have HK := hide (fun W => known_in W)
  clear h0 h1
  by_cases hbig : 500 < len0
  · have hbig' : (500 : Int) < (len0 : Int) := by omega
    clear HN hr hln hst
    go_enter Try.func8, Try.ntmps8
    go_wp2_with fail
    refine (unhide HK _).mono ?_
    rintro r W2 ⟨rfl, hb2⟩
    go_wp2
    go_ret
    exact ⟨rfl, hb2⟩
  have hbig' : ¬ (500 : Int) < (len0 : Int) := by omega
  have Hln := hide hln
  have Hr := hide hr
  have Hst := hide hst
  clear hr hst hln
  by_cases hB : newB ls ms = true
  rotate_left
  · have hB' : newB ls ms = false := by simpa using hB
    have HB := hide hB'
    clear hB hB'
    go_enter Try.func8, Try.ntmps8
    go_wp2_with fail
    refine (unhide HN _).mono ?_
    rintro e W1 ⟨b1, h1⟩
    rw [unhide HB] at h1
    rcases h1 with ⟨h, _⟩ | ⟨_, rfl⟩
    · cases h
    replace b1 := hide b1
    go_wp2_with fail
    refine (unhide HN _).mono ?_
    rintro e W2 ⟨b2, h2⟩
    rw [unhide HB] at h2
    clear HN
    rcases h2 with ⟨h, _⟩ | ⟨_, rfl⟩
    · cases h
    have B2 := hide (bnext (unhide b1) b2)
    clear b1 b2
    go_wp2_with fail
    refine (unhide HK _).mono ?_
    rintro r W3 ⟨rfl, hb3⟩
    go_wp2
    go_ret
    exact ⟨rfl, bnext (unhide B2) hb3⟩
  have HB := hide hB
  clear hB
  obtain ⟨b, hb⟩ : ∃ b, w.heap.size = b := ⟨_, rfl⟩
  have Hb := hide hb
  clear hb
  go_enter Try.func8, Try.ntmps8
  go_wp2_with fail
  refine (unhide HN _).mono ?_
  rintro e W1 ⟨b1, h1⟩
  rw [unhide HB] at h1
  rcases h1 with ⟨_, rfl, p1⟩ | ⟨h, _⟩
  rotate_left
  · cases h
  replace b1 := hide b1
  replace p1 := hide p1
  go_wp2_with fail
  refine (unhide HN _).mono ?_
  rintro e W2 ⟨b2, h2⟩
  rw [unhide HB] at h2
  rcases h2 with ⟨_, rfl, p2⟩ | ⟨h, _⟩
  rotate_left
  · cases h
  have HJ := hide (OJ.new (x := ls) (y := ms) (unhide b1) b2 (unhide p1) p2)
  clear b1 b2 p1 p2 HN HB
  rw [unhide Hb] at HJ ⊢
  generalize W1.heap.size = b' at *
  go_wp2
  go_loopw [11] (fun iv wr => ∃ (i : Nat) (s : St), iv = .int .i64 (i : Nat) ∧ i ≤ len0 ∧ Hid (OJ w wr b b' s)) (fun iv _ => len0 - (RowKit.intOf iv).toNat)
  case atStart => exact ⟨0, newS ls ms, rfl, by omega, HJ⟩
  case round =>
    obtain ⟨i, s, rfl, hi, HP⟩ := hrel
    clear HJ
    by_cases hlt : i < len0
    rotate_left
    · have hlt' : ¬ (i : Int) < (len0 : Int) := by omega
      obtain ⟨n, hn⟩ : ∃ n, s.fl.length = n := ⟨_, rfl⟩
      have HF1 := hide ((unhide HP).flg1 hn)
      have HF2 := hide (fun X (hX : Below wr.heap.size wr X) => ((unhide HP).below hX).flg2 hn)
      have hn64 : s.fl.length ≤ 64 := (unhide HP).ln
      have Hbl := hide (unhide HP).bel
      clear hn
      go_wp2_with fail
      refine (unhide HF1).mono ?_
      rintro e X1 ⟨a1, c1, rfl, o1, b1⟩
      replace o1 := hide o1
      replace b1 := hide b1
      go_wp2_with fail
      refine (unhide HF2 _ (unhide b1)).mono ?_
      rintro e X2 ⟨a2, c2, rfl, o2, b2⟩
      have HI := hide (ints_in (.slice a1 n c1) (.slice a2 n c2) s.fl s.fl X2 (own_below (unhide o1) b2).row o2.row (by omega) (by omega))
      rw [decide_eq_true rfl] at HI
      have B2 := hide (bnext (bnext (unhide Hbl) (unhide b1)) b2)
      clear HF1 HF2 o1 b1 o2 b2
      go_wp2_with fail
      refine (unhide HI).mono ?_
      rintro e X3 ⟨rfl, b3⟩
      have B3 := hide (bnext (unhide B2) b3)
      clear HI b3 B2
      go_wp2_with fail
      refine (unhide HK _).mono ?_
      rintro r W5 ⟨rfl, hb5⟩
      go_wp2
      go_ret
      refine ⟨rfl, ?_⟩
      exact bnext (unhide B3) hb5
    have hlt' : (i : Int) < (len0 : Int) := by omega
    have hls : i < ss.length := by rw [unhide Hln]; exact hlt
    obtain ⟨x, hx⟩ : ∃ s, ss[i]? = some s := ⟨_, List.getElem?_eq_getElem hls⟩
    obtain ⟨b0, off, rfl, hb0, q0, q1, q2, q3⟩ := RSt.at ((unhide Hr).below (unhide HP).bel) hx
    obtain ⟨V, hV⟩ : ∃ V, wr.alloc (.cells #[.int .i64 x.kind, .int .i64 x.num, .int .i64 x.got, .int .i64 x.crd] 31) = V := ⟨_, rfl⟩
    have bV : Below wr.heap.size wr V := by rw [← hV]; exact ballc (Below.refl _ _) _
    have BV : Bx V wr.heap.size 31 (stC x) := by rw [← hV]; exact Bx.new _ _ _
    have K0 := hide ((unhide HP).start bV BV)
    have Hbl := hide (unhide HP).bel
    have HPa : Hid (∀ i, (w.heap.size ≤ i ∧ i < wr.heap.size) → i < wr.heap.size) := fun i hi => hi.2
    have HOJ := hide (fun s2 X (K : DK (fun i => w.heap.size ≤ i ∧ i < wr.heap.size) wr x 39 b 39 b' s2 s2 X) => K.oj (unhide Hbl))
    have HY := hide (fun s1 s2 X (K : DK (fun i => w.heap.size ≤ i ∧ i < wr.heap.size) wr x 39 b 39 b' s1 s2 X) => K.y)
    obtain ⟨y0, y1, y2, y3⟩ := (unhide K0).y
    have HS1 := hide (fun s1 s2 X (K : DK (fun i => w.heap.size ≤ i ∧ i < wr.heap.size) wr x 39 b 39 b' s1 s2 X) => K.call (unhide HPa) (fun P1 h1 => Send_in h1 x.num))
    have HS2 := hide (fun s1 s2 X (K : DK (fun i => w.heap.size ≤ i ∧ i < wr.heap.size) wr x 39 b 39 b' s1 s2 X) => K.call2 (unhide HPa) (fun P1 h1 => Send_in h1 x.num))
    have HH1 := hide (fun s1 s2 X (K : DK (fun i => w.heap.size ≤ i ∧ i < wr.heap.size) wr x 39 b 39 b' s1 s2 X) => K.call (unhide HPa) (fun P1 h1 => Heard_in h1 x.num x.got x.crd))
    have HH2 := hide (fun s1 s2 X (K : DK (fun i => w.heap.size ≤ i ∧ i < wr.heap.size) wr x 39 b 39 b' s1 s2 X) => K.call2 (unhide HPa) (fun P1 h1 => Heard_in h1 x.num x.got x.crd))
    have HC1 := hide (fun s1 s2 X (K : DK (fun i => w.heap.size ≤ i ∧ i < wr.heap.size) wr x 39 b 39 b' s1 s2 X) => K.call (unhide HPa) (fun P1 h1 => Clear_in h1))
    have HC2 := hide (fun s1 s2 X (K : DK (fun i => w.heap.size ≤ i ∧ i < wr.heap.size) wr x 39 b 39 b' s1 s2 X) => K.call2 (unhide HPa) (fun P1 h1 => Clear_in h1))
    obtain ⟨KD, hKD⟩ : ∃ KD, (fun s1 s2 X => DK (fun i => w.heap.size ≤ i ∧ i < wr.heap.size) wr x 39 b 39 b' s1 s2 X) = KD := ⟨_, rfl⟩
    have eKD : ∀ s1 s2 X, (DK (fun i => w.heap.size ≤ i ∧ i < wr.heap.size) wr x 39 b 39 b' s1 s2 X) = KD s1 s2 X := fun s1 s2 X => by rw [← hKD]
    simp only [eKD] at K0 HOJ HY HS1 HS2 HH1 HH2 HC1 HC2
    obtain ⟨bx, hbx⟩ : ∃ bx, wr.heap.size = bx := ⟨_, rfl⟩
    rw [hbx] at HY y0 y1 y2 y3
    clear hx bV BV hls hKD eKD HPa HP
    go_upto_region 15 with fail
    go_cut [55] from 54 to 55 (fun v wx => v = .int .i64 x.kind ∧ V = wx)
    case first =>
      go_wp2
      go_meet
      case rel => exact ⟨rfl, rfl⟩
    obtain ⟨rfl, rfl⟩ := hcut
    rename_i hKx
    refine hKx _ _ ?_
    clear hKx q0 q1 q2 q3 hV hbx
    go_cut [13, 14, 15, 16] from 56 to 95 (fun va vb vc vd wx => Hid (∃ (s2 : St) (N C : Int), va = .int .i64 N ∧ vb = .int .i64 C ∧ vc = .int .i64 N ∧ vd = .int .i64 C ∧ OJ w wx b b' s2))
    case first =>
      by_cases hk1 : x.kind = 1
      · have hkk : (x.kind == 1) = true := by simpa using hk1
        clear hk1
        go_wp2_with fail
        refine (unhide HS1 _ _ _ (unhide K0)).mono ?_
        rintro e X1 ⟨rfl, k1⟩
        obtain ⟨-, z1, -, -⟩ := unhide HY _ _ _ k1
        replace k1 := hide k1
        clear y0 y1 y2 y3
        go_wp2_with fail
        refine (unhide HS2 _ _ _ (unhide k1)).mono ?_
        rintro e X2 ⟨rfl, k2⟩
        have H2 := hide (unhide HOJ _ _ k2)
        clear k1 k2 z1
        go_wp2
        go_meet
        case rel => exact hide ⟨_, _, _, rfl, rfl, rfl, rfl, unhide H2⟩
      by_cases hk2 : x.kind = 2
      · have hkk : (x.kind == 1) = false := by rw [hk2]; rfl
        have hkk2 : (x.kind == 2) = true := by simpa using hk2
        clear hk1 hk2
        go_wp2_with fail
        refine (unhide HH1 _ _ _ (unhide K0)).mono ?_
        rintro e X1 ⟨rfl, k1⟩
        obtain ⟨z0, z1, z2, z3⟩ := unhide HY _ _ _ k1
        replace k1 := hide k1
        clear y0 y1 y2 y3
        go_wp2_with fail
        refine (unhide HH2 _ _ _ (unhide k1)).mono ?_
        rintro e X2 ⟨rfl, k2⟩
        have H2 := hide (unhide HOJ _ _ k2)
        clear k1 k2 z0 z1 z2 z3
        go_wp2
        go_meet
        case rel => exact hide ⟨_, _, _, rfl, rfl, rfl, rfl, unhide H2⟩
      by_cases hk3 : x.kind = 3
      · have hkk : (x.kind == 1) = false := by rw [hk3]; rfl
        have hkk2 : (x.kind == 2) = false := by rw [hk3]; rfl
        have hkk3 : (x.kind == 3) = true := by simpa using hk3
        clear hk1 hk2 hk3
        go_wp2_with fail
        refine (unhide HC1 _ _ _ (unhide K0)).mono ?_
        rintro e X1 ⟨rfl, k1⟩
        replace k1 := hide k1
        clear y0 y1 y2 y3
        go_wp2_with fail
        refine (unhide HC2 _ _ _ (unhide k1)).mono ?_
        rintro e X2 ⟨rfl, k2⟩
        have H2 := hide (unhide HOJ _ _ k2)
        clear k1 k2
        go_wp2
        go_meet
        case rel => exact hide ⟨_, _, _, rfl, rfl, rfl, rfl, unhide H2⟩
      have hkk : (x.kind == 1) = false := by simpa using hk1
      have hkk2 : (x.kind == 2) = false := by simpa using hk2
      have hkk3 : (x.kind == 3) = false := by simpa using hk3
      clear hk1 hk2 hk3
      have H2 := hide (unhide HOJ _ _ (unhide K0))
      go_wp2
      go_meet
      case rel => exact hide ⟨_, _, _, rfl, rfl, rfl, rfl, unhide H2⟩
    case rest =>
      have HX := hcut
      obtain ⟨s2, N, C, rfl, rfl, rfl, rfl, hoj⟩ := unhide HX
      replace hoj := hide hoj
      clear HX hcut K0 HOJ HY HS1 HS2 HH1 HH2 HC1 HC2 y0 y1 y2 y3
      obtain ⟨n, hn⟩ : ∃ n, s2.fl.length = n := ⟨_, rfl⟩
      have Hn := hide hn
      have hn64 : n ≤ 64 := by rw [← hn]; exact (unhide hoj).ln
      have HF1 := hide (fun X (h : OJ w X b b' s2) => h.flg1 hn)
      have HF2 := hide (fun X (h : OJ w X b b' s2) => h.flg2 hn)
      clear hn
      go_wp2_with fail
      refine (unhide HF1 _ (unhide hoj)).mono ?_
      rintro e X1 ⟨a1, c1, rfl, o1, b1⟩
      replace o1 := hide o1
      replace b1 := hide b1
      go_wp2_with fail
      refine (unhide HF1 _ ((unhide hoj).below (unhide b1))).mono ?_
      rintro e X2 ⟨a2, c2, rfl, o2, b2⟩
      have HR := hide (OR.make (unhide hoj) (unhide b1) (unhide o1) b2 o2)
      clear o1 b1 o2 b2 hoj HF1
      go_wp2_with fail
      refine (unhide HF2 _ (unhide HR).oj).mono ?_
      rintro e X3 ⟨a3, c3, rfl, o3, b3⟩
      have R3 := hide ((unhide HR).below b3)
      have HI := hide (ints_in (.slice a1 n c1) (.slice a3 n c3) s2.fl s2.fl X3 (unhide R3).rg.row o3.row (by have := unhide Hn; omega) (by have := unhide Hn; omega))
      rw [decide_eq_true rfl] at HI
      clear o3 b3 HR
      go_wp2_with fail
      refine (unhide HI).mono ?_
      rintro e X4 ⟨rfl, b4⟩
      have R4 := hide ((unhide R3).below b4)
      clear HI R3 b4
      go_wp2
      go_loopw [19] (fun kv wq => ∃ (k : Nat) (l : List Int), kv = .int .i64 (k : Nat) ∧ k ≤ n ∧ Hid (OR w wq b b' s2 (.slice a1 n c1) l (.slice a2 n c2))) (fun kv _ => n - (RowKit.intOf kv).toNat)
      case atStart => exact ⟨0, _, rfl, by omega, R4⟩
      case round =>
        obtain ⟨k, l, rfl, hk, HRk⟩ := hrel
        clear R4
        by_cases hkn : k < n
        · have hkn' : (k : Int) < (n : Int) := by omega
          obtain ⟨gb, u, ha1, z0, zf, -⟩ := (unhide HRk).at hkn
          subst ha1
          have HRs := hide ((unhide HRk).set k (-7))
          obtain ⟨Z, hZ⟩ : ∃ Z, wr.setCell ⟨gb, k, none⟩ (.int .i64 (-7)) = Z := ⟨_, rfl⟩
          rw [hZ] at HRs
          clear HRk
          go_wp2
          go_roundw
          case rel => exact ⟨k + 1, _, by go_num, by omega, HRs⟩
          case measure => show n - ((k : Int) + 1).toNat < n - ((k : Nat) : Int).toNat; omega
        · have hkn' : ¬ (k : Int) < (n : Int) := by omega
          have HRl : Hid (∃ l : List Int, l.length = n ∧ OR w wr b b' s2 (.slice a1 n c1) l (.slice a2 n c2)) := by
            refine ⟨l, ?_, unhide HRk⟩
            obtain ⟨a', c', e'⟩ := OwN.form (unhide HRk).rg
            simp at e'
            exact e'.2.1.symm
          clear HRk
          go_wp2
          go_loopw [20, 21] (fun mv kv wq => ∃ (k : Nat) (am : Option Addr) (cm : Nat), kv = .int .i64 (k : Nat) ∧ k ≤ 20 ∧ mv = .slice am (n + k) cm ∧ Hid (∃ l : List Int, l.length = n + k ∧ OR w wq b b' s2 (.slice am (n + k) cm) l (.slice a2 n c2))) (fun mv kv _ => 20 - (RowKit.intOf kv).toNat)
          case atStart => exact ⟨0, a1, c1, rfl, by omega, rfl, HRl⟩
          case round =>
            obtain ⟨k, am, cm, rfl, hk, rfl, HRm⟩ := hrel
            clear HRl
            by_cases hk20 : k < 20
            · have hk20' : (k : Int) < 20 := by omega
              obtain ⟨l, hl, hor⟩ := unhide HRm
              obtain ⟨a', c', Z, hap, hor'⟩ := hor.app (by omega) (-8)
              rw [hl] at hap hor'
              have HAp := hide hap
              have HRn : Hid (∃ l' : List Int, l'.length = n + (k + 1) ∧ OR w Z b b' s2 (.slice a' (n + (k + 1)) c') l' (.slice a2 n c2)) := ⟨l ++ [-8], by simp [hl]; omega, hor'⟩
              clear hap hor hor' hl HRm
              go_wp2_with (at_builtin; refine wpList_append_eq rfl _ _ _ _ rfl _ _ _ _ rfl rfl (unhide HAp) ?_)
              go_roundw
              case rel => exact ⟨k + 1, a', c', by go_num, by omega, rfl, HRn⟩
              case measure => show 20 - ((k : Int) + 1).toNat < 20 - ((k : Nat) : Int).toNat; omega
            · have hk20' : ¬ (k : Int) < 20 := by omega
              obtain ⟨l, -, hor⟩ := unhide HRm
              replace hor := hide hor
              clear HRm
              go_wp2_with fail
              refine (unhide HF2 _ (unhide hor).oj).mono ?_
              rintro e X5 ⟨a5, c5, rfl, o5, b5⟩
              have R5 := hide ((unhide hor).below b5)
              have HI := hide (ints_in (.slice a2 n c2) (.slice a5 n c5) s2.fl s2.fl X5 (unhide R5).rh.row o5.row (by have := unhide Hn; omega) (by have := unhide Hn; omega))
              rw [decide_eq_true rfl] at HI
              clear o5 b5 hor
              go_wp2_with fail
              refine (unhide HI).mono ?_
              rintro e X6 ⟨rfl, b6⟩
              have R6 := hide ((unhide R5).below b6).oj
              clear HI R5 b6
              go_wp2
              go_roundw
              case rel => exact ⟨i + 1, s2, by go_num, by omega, R6⟩
              case measure => show len0 - ((i : Int) + 1).toNat < len0 - ((i : Nat) : Int).toNat; omega

theorem own : ownKnob Try.prog.godebug = none := by kernel_rfl
theorem laidOut2 : laidOutB Try.prog = true := by kernel_rfl

set_option maxRecDepth 100000 in
theorem lifted (os : Os) (started : os.Started) (H : Type) (enc : TypeId × Value → H) :
    ReturnsInHanded {} Try.checked os 8 .any (Rows.peerOwnSpec.pre6 enc Try.prog Try.f8 Rows.peerOwnRow.domain false) (Rows.peerOwnSpec.post enc Try.prog Try.f8 false true false false) := by
  refine returnsInHanded_of_change (C := Try.checked) own started (by kernel_rfl) Try.func8
    (ChangeSpec.witness6 (enc := enc) (C := Try.checked) false ⟨#[], #[.int .i64 0, .int .i64 0, .slice none 0 0], []⟩ 8 (by kernel_rfl) (by kernel_rfl) (by kernel_rfl) (by kernel_rfl)) ?_
  intro W base args ds gs before hval0 hW hcnd _
  have hval : ∀ (j : Nat) t v, Try.f8.params[j]? = some t → args[j]? = some v → Value.okWide Try.prog W .any base t v := hval0
  have hW' := hW
  obtain ⟨p, q, hA0, hV, rfl, hfz, hnd⟩ := hW
  have hA : DataW.TrodAll enc Try.prog W 0 (fun _ => true) true Try.f8.params.toList args.toList ds p := hA0
  rw [Try.params8] at hA hval
  obtain ⟨v0, vs0, d0, ds0, p0, q0, hargs, rfl, rfl, h0, r0⟩ := trodAll_cons hA
  obtain ⟨v1, vs1, d1, ds1, p1, q1, rfl, rfl, rfl, h1, r1⟩ := trodAll_cons r0
  obtain ⟨v2, vs2, d2, ds2, p2, q2, rfl, rfl, rfl, h2, r2⟩ := trodAll_cons r1
  obtain ⟨rfl, rfl, rfl⟩ := trodAll_nil r2
  obtain rfl : args = #[v0, v1, v2] := by cases args; simp_all
  obtain ⟨rfl, rfl⟩ := trodVars_none hV
  obtain ⟨a0, rfl, rfl, rfl, w0⟩ := open_int Try.underlying3 (hval 0 3 v0 rfl rfl) h0
  obtain ⟨a1, rfl, rfl, rfl, w1⟩ := open_int Try.underlying3 (hval 1 3 v1 rfl rfl) h1
  obtain ⟨a2, len2, cap2, rfl⟩ := okWide_slice Try.underlying34 (hval 2 34 v2 rfl rfl)
  have k2 := h2
  have lt2 : ∀ x ∈ p2, x.block < W.heap.size := by obtain ⟨m, hm⟩ := k2; exact DataW.trod_lt m _ _ _ hm
  obtain ⟨z2, w2⟩ : ∃ l : List Stp, RSt W (.slice a2 len2 cap2) l ∧ l.length = len2 ∧ len2 ≤ maxLen ∧ ∀ e ∈ l, StW e := by
    obtain ⟨fuel, hf⟩ := h2
    simp only [Value.cells] at hf
    exact open_steps hf
  clear hA0 hval0
  refine (walk a0 a1 a2 len2 cap2 z2 W w0 w1 w2).mono fun e W' ⟨he, bel⟩ => ?_
  subst he
  exact ⟨_, rfl, _, _, _, [], _, [], hW', trodAll_mk1 (shut_bool Try.underlying4 _), (trodAll_cons_mk (shut_int Try.underlying3 w0) (trodAll_cons_mk (shut_int Try.underlying3 w1) (trodAll_cons_mk (Below.trod laidOut2 (by kernel_rfl) (of_decide_eq_true (by kernel_rfl)) k2 bel lt2) trodAll_mk0))), rfl, bel.frame _, fun h => by cases h⟩

theorem over : Rows.peerOwnRow.holds Try.pinned (OpenSpec.ofChange Rows.peerOwnSpec) :=
  OpenClaim.holds_of_wide 8 Try.f8 rfl rfl rfl rfl rfl rfl rfl ⟨rfl, rfl, rfl, rfl, rfl⟩ rfl rfl rfl rfl rfl (by kernel_rfl) Try.func8 (by kernel_rfl)
    (of_decide_eq_true (by kernel_rfl)) (by unfold Func.isWrapper; first | (rw [if_pos (by decide +kernel)]; kernel_rfl) | (rw [if_neg (by decide +kernel)]; exact ⟨rfl, rfl⟩))
    (fun os started H enc _ => lifted os started H enc)

end LPeerOwn

theorem peerOwn_holds : Rows.PeerOwnSaid := LPeerOwn.over

end Go.Proofs.Ytiekholaheddhaa
