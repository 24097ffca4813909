/-
  Chapter 14's law FrontMeans returns true for every script, all members, every self, every own vector and every further member, and leaves its arguments as they were; no condition.
-/
import Derived.Test.YtjiphechhfifgaaRows
import Derived.WalkKit
import Derived.ProofKit
import Derived.OpenShut
import Derived.ShutString
import Derived.ChangeOld
import Derived.Below
import Derived.Test.YtjiphechhfifgaaZXN
set_option linter.unusedVariables false
set_option linter.unusedSimpArgs false
namespace Go.Proofs.Ytjiphechhfifgaa
namespace LFrontMeans
open Go.ChangeShapes Go.WideShapes Go.ChangeAt Go.RowKit Go.Lib
open Go.ChangeMaps (open_string shut_string)

set_option maxRecDepth 100000 in
set_option maxHeartbeats 16000000 in
theorem walk (a0 : Option Addr) (len0 cap0 : Nat) (ss : List Stp) (a1 : Option Addr) (len1 cap1 : Nat) (ms : List Int) (self : Int) (a3 : Option Addr) (len3 cap3 : Nat) (own : List (Int × Int)) (more : Int) (w : World) (w0 : RS w (.slice a0 len0 cap0) ss ∧ ss.length = len0 ∧ len0 ≤ maxLen ∧ ∀ e ∈ ss, StW w e) (w1 : RN w (.slice a1 len1 cap1) ms ∧ ms.length = len1 ∧ len1 ≤ maxLen ∧ ∀ e ∈ ms, in64 e) (w2 : (Lit.int .i64 self).wf = true) (w3 : RI w (.slice a3 len3 cap3) own ∧ own.length = len3 ∧ len3 ≤ maxLen ∧ ∀ e ∈ own, idIn e) (w4 : (Lit.int .i64 more).wf = true) :
    Calls Try.prog 6 #[.slice a0 len0 cap0, .slice a1 len1 cap1, .int .i64 self, .slice a3 len3 cap3, .int .i64 more] w fun e W => e = .returned (.bool true) ∧ Below w.heap.size w W := by
  obtain ⟨hr, hln, hmx, hst⟩ := w0
  obtain ⟨hr1, hln1, hmx1, hst1⟩ := w1
  obtain ⟨hr3, hln3, hmx3, hst3⟩ := w3
  have hmore := wf64 w4
  unfold maxLen at hmx hmx1 hmx3
  have HMu := hide (much_in a0 len0 cap0 ss w hr hln hst (by omega))
  have HK := hide (fun W => known_in W)
  have tail : Hid (∀ (W1 : World), Hid (Below w.heap.size w W1) → Calls Try.prog 10 #[] W1 fun e W => e = .returned (.bool true) ∧ Below w.heap.size w W) := fun W1 h1 => (unhide HK W1).mono fun e W ⟨h2, h3⟩ => ⟨h2, bnext (unhide h1) h3⟩
  by_cases hmu : muchB ss = true
  · rw [hmu] at HMu
    clear hr hst hr1 hr3 hst1 hst3
    go_enter Try.func6, Try.ntmps6
    go_wp2_with fail
    refine (unhide HMu).mono ?_
    rintro r W1 ⟨rfl, hb1⟩
    replace hb1 := hide hb1
    clear HMu
    go_wp2_with fail
    refine (unhide tail _ hb1).mono ?_
    rintro r W2 ⟨rfl, hb2⟩
    go_wp2
    go_ret
    exact ⟨rfl, hb2⟩
  replace hmu : muchB ss = false := by simpa using hmu
  have hsm := much_small hmu
  rw [hmu] at HMu
  by_cases hl0 : 80 < len0
  · have hl0' : (80 : Int) < (len0 : Int) := by omega
    clear hr hst hr1 hr3 hst1 hst3
    go_enter Try.func6, Try.ntmps6
    go_wp2_with fail
    refine (unhide HMu).mono ?_
    rintro r W1 ⟨rfl, hb1⟩
    replace hb1 := hide hb1
    clear HMu
    go_wp2_with fail
    refine (unhide tail _ hb1).mono ?_
    rintro r W2 ⟨rfl, hb2⟩
    go_wp2
    go_ret
    exact ⟨rfl, hb2⟩
  have hl0' : ¬ (80 : Int) < (len0 : Int) := by omega
  by_cases hl1 : 40 < len1
  · have hl1' : (40 : Int) < (len1 : Int) := by omega
    clear hr hst hr1 hr3 hst1 hst3
    go_enter Try.func6, Try.ntmps6
    go_wp2_with fail
    refine (unhide HMu).mono ?_
    rintro r W1 ⟨rfl, hb1⟩
    replace hb1 := hide hb1
    clear HMu
    go_wp2_with fail
    refine (unhide tail _ hb1).mono ?_
    rintro r W2 ⟨rfl, hb2⟩
    go_wp2
    go_ret
    exact ⟨rfl, hb2⟩
  have hl1' : ¬ (40 : Int) < (len1 : Int) := by omega
  by_cases hl3 : 20000 < len3
  · have hl3' : (20000 : Int) < (len3 : Int) := by omega
    clear hr hst hr1 hr3 hst1 hst3
    go_enter Try.func6, Try.ntmps6
    go_wp2_with fail
    refine (unhide HMu).mono ?_
    rintro r W1 ⟨rfl, hb1⟩
    replace hb1 := hide hb1
    clear HMu
    go_wp2_with fail
    refine (unhide tail _ hb1).mono ?_
    rintro r W2 ⟨rfl, hb2⟩
    go_wp2
    go_ret
    exact ⟨rfl, hb2⟩
  have hl3' : ¬ (20000 : Int) < (len3 : Int) := by omega
  have Hsm := hide hsm.2
  have Hln := hide hln
  have Hr := hide hr
  have Hst := hide hst
  have Hln1 := hide hln1
  have Hr1 := hide hr1
  have H64 := hide hst1
  have Hln3 := hide hln3
  have Hr3 := hide hr3
  have hol : own.length ≤ 20000 := by omega
  have Hol := hide hol
  have hml : Hid (ms.length ≤ 40) := by rw [hln1]; exact hide (by omega)
  replace hmore := hide hmore
  clear hmu hr hst hln hr1 hln1 hst1 hr3 hln3 hst3 hsm hmx hmx1 hmx3 w2 w4 hol
  go_enter Try.func6, Try.ntmps6
  go_wp2_with fail
  refine (unhide HMu).mono ?_
  rintro r W1 ⟨rfl, hb1⟩
  have HN := hide (KNew_in (Q := fun _ => False) W1 hb1 (fun _ h => h.elim))
  clear HMu hb1
  go_wp2_with fail
  refine (unhide HN).mono ?_
  rintro r W2 ⟨rfl, hK, -⟩
  obtain ⟨bA, hbA⟩ : ∃ b, W1.heap.size = b := ⟨_, rfl⟩
  rw [hbA] at hK ⊢
  obtain ⟨X0, hX0⟩ : ∃ X, W2.alloc (.cells #[.slice none 0 0, .slice none 0 0, .slice none 0 0, .slice none 0 0, .slice none 0 0, .slice none 0 0, .slice none 0 0, .slice none 0 0, .slice none 0 0, .slice none 0 0, .slice none 0 0, .slice none 0 0, .slice none 0 0, .slice none 0 0, .slice none 0 0, .slice none 0 0, .slice none 0 0] 47) = X := ⟨_, rfl⟩
  have I0 : Hid (KF (fun i => i = W2.heap.size) w X0 bA 0 (fun _ => none) ∧ WAS (fun i => i = W2.heap.size) w X0 W2.heap.size (fun _ => .slice none 0 0) (fun k : Nat => usR (fun _ => none) (k : Int))) := by
    have al : Below W2.heap.size W2 X0 := by rw [← hX0]; exact ballc (Below.refl _ _) _
    refine ⟨(hK.grow al).wk (fun i e => .inr ⟨by omega, by rw [e, ← hX0]; simp⟩), by rw [← hX0]; exact Bx.new W2 _ _, fun k _ => (by show OwD X0 w.heap.size (.slice none 0 0) (vec (fun _ => 0)); rw [vec_zero]; exact World.ownsRow_nil _ _ _ _), rfl, fun k _ i hi => (by cases hi)⟩
  obtain ⟨bw, hbw⟩ : ∃ b, W2.heap.size = b := ⟨_, rfl⟩
  rw [hbw] at I0
  have hbw0 : Hid (w.heap.size ≤ bw) := by rw [← hbw]; exact hide hK.bel.size
  clear HN hK hbA
  go_wp2
  clear hX0 hbw
  go_loopw [13] (fun iv wr => ∃ (i n : Nat) (S : StF) (vs : Nat → Value) (Q : Nat → Prop), iv = .int .i64 (i : Nat) ∧ i ≤ len0 ∧ n ≤ i ∧ Hid (KF Q w wr bA n S ∧ WAS Q w wr bw vs (fun k : Nat => usR S (k : Int)) ∧ MI S)) (fun iv _ => len0 - (Lib.intOf iv).toNat)
  case atStart => exact ⟨0, 0, _, _, _, rfl, by omega, by omega, hide ⟨(unhide I0).1, (unhide I0).2, MI.start⟩⟩
  case round =>
    clear I0
    obtain ⟨i, n, S, vs, Q, rfl, hi, hn, HI⟩ := hrel
    by_cases hlt : i < len0
    · have hlt' : (i : Int) < (len0 : Int) := by omega
      have hls : i < ss.length := by rw [unhide Hln]; exact hlt
      obtain ⟨s, hx⟩ : ∃ s, ss[i]? = some s := ⟨_, List.getElem?_eq_getElem hls⟩
      obtain ⟨hK, hW, hM⟩ := unhide HI
      obtain ⟨b0, off, rfl, hb0, q0, q1, q2, q3⟩ := RS.at ((unhide Hr).below hK.bel) hx
      have hms := List.mem_of_getElem? hx
      have hw := unhide Hst s hms
      obtain ⟨av, cv, hv⟩ := hw.fv
      obtain ⟨am, cm, hm⟩ := hw.fm
      obtain ⟨X, hX⟩ : ∃ X, wr.alloc (.cells #[.int .i64 s.kind, .int .i64 s.site, s.vv, s.vm] 34) = X := ⟨_, rfl⟩
      have xX : Bx X wr.heap.size 34 #[.int .i64 s.kind, .int .i64 s.site, s.vv, s.vm] := by rw [← hX]; exact Bx.new wr _ _
      have bX : Below wr.heap.size wr X := by rw [← hX]; exact ballc (Below.refl _ _) _
      obtain ⟨Q1, hQ1⟩ : ∃ Q1 : Nat → Prop, Q1 = fun i => Q i ∨ (wr.heap.size ≤ i ∧ i < X.heap.size) := ⟨_, rfl⟩
      have hK1 : KF Q1 w X bA n S := by rw [hQ1]; exact hK.grow bX
      have HD := hide (Kdo_in hK1 (by omega) s hw (unhide Hsm s hms).1)
      have hW1 : WAS Q1 w X bw vs (fun k : Nat => usR S (k : Int)) := by rw [hQ1]; exact (hW.below bX).mono (fun i h => .inl h)
      have Hw := hide (And.intro hw (And.intro (unhide Hsm s hms) (And.intro hM (fun k => (hK.good k).2))))
      have HX := hide xX
      have HK1 := hide (And.intro hK1 (And.intro hW1 (us_zero hK hM)))
      have z0 := xX.cell 0 _ rfl
      have z1 := xX.cell 1 _ rfl
      have z2 := xX.cell 2 _ rfl
      have z3 := xX.cell 3 _ rfl
      have xl := xX.lt
      have BXw := hide (bnext hK.bel bX)
      have zQ : Hid (Q1 wr.heap.size) := by rw [hQ1]; exact hide (.inr ⟨Nat.le_refl _, xl⟩)
      obtain ⟨kind, site, vl, ml, vv, vm⟩ := s
      simp only at hv hm q0 q1 q2 q3 z0 z1 z2 z3 HX hX
      subst hv hm
      unfold stA at HD
      simp only at HD
      clear hx hw hms hK hW hM xX bX hK1 hW1 hQ1 HI
      go_wp2_with fail
      refine (unhide HD).mono ?_
      rintro r W5 ⟨rfl, hK5, hk5⟩
      obtain ⟨T, hT⟩ : ∃ T, doS ⟨kind, site, vl, ml, .slice av vl.length cv, .slice am ml.length cm⟩ S = T := ⟨_, rfl⟩
      obtain ⟨bx, hbx⟩ : ∃ b, wr.heap.size = b := ⟨_, rfl⟩
      rw [hbx] at HX zQ
      have J0 : Hid (KF Q1 w W5 bA (n + 1) T ∧ WAS Q1 w W5 bw vs (fun k : Nat => if k < 1 then usR T (k : Int) else usR S (k : Int)) ∧ Bx W5 bx 34 #[.int .i64 kind, .int .i64 site, .slice av vl.length cv, .slice am ml.length cm] ∧ Q1 bx) := by
        obtain ⟨k1, k2, k3⟩ := unhide HK1
        rw [hT] at hK5
        have hMT : MI T := by rw [← hT]; exact (unhide Hw).2.2.1.do _
        have e : (fun k : Nat => if k < 1 then usR T (k : Int) else usR S (k : Int)) = fun k : Nat => usR S (k : Int) := by
          funext k
          by_cases h : k < 1
          · obtain rfl : k = 0 := by omega
            rw [if_pos h]
            show usR T 0 = usR S 0
            rw [us_zero hK5 hMT, k3]
          · rw [if_neg h]
        rw [e]
        exact ⟨hK5, k2.kp hk5, (unhide HX).kp hk5 (fun e => e (unhide zQ)), unhide zQ⟩
      replace hT := hide hT
      rw [hbx]
      clear HD hK5 hk5 HK1 HX zQ z0 z1 z2 z3 xl q0 q1 q2 q3 hb0 hX hbx BXw
      go_wp2
      go_loopw [15, 16, 17, 18] (fun kv _ _ _ wr => ∃ (k : Nat) (vs : Nat → Value) (Q : Nat → Prop), kv = .int .i64 (k : Nat) ∧ 1 ≤ k ∧ k ≤ 17 ∧ Hid (KF Q w wr bA (n + 1) T ∧ WAS Q w wr bw vs (fun j : Nat => if j < k then usR T (j : Int) else usR S (j : Int)) ∧ Bx wr bx 34 #[.int .i64 kind, .int .i64 site, .slice av vl.length cv, .slice am ml.length cm] ∧ Q bx)) (fun kv _ _ _ _ => 17 - (Lib.intOf kv).toNat)
      case atStart => exact ⟨1, vs, Q1, rfl, by omega, by omega, J0⟩
      case round =>
        clear J0
        obtain ⟨k, vs, Q, rfl, hk1, hk2, HJ⟩ := hrel
        by_cases hk : k ≤ 16
        · have hk' : (k : Int) ≤ 16 := by omega
          have hk17 : k < 17 := by omega
          have hk17' : (k : Int) < 17 := by omega
          have k64 : in64 (k : Int) := ⟨by omega, by omega⟩
          obtain ⟨jK, jW, jB, jQ⟩ := unhide HJ
          have HA := hide (KRow_in jK (k : Int) k64)
          obtain ⟨V, hV⟩ : ∃ V, vec (hdR T (k : Int)) = V := ⟨_, rfl⟩
          obtain ⟨U, hU⟩ : ∃ U, vec (usR T (k : Int)) = U := ⟨_, rfl⟩
          obtain ⟨Uo, hUo⟩ : ∃ U, vec (usR S (k : Int)) = U := ⟨_, rfl⟩
          obtain ⟨is, his⟩ : ∃ is, (T (k : Int)).isSome = is := ⟨_, rfl⟩
          have hVl : V.length ≤ 17 := by rw [← hV]; exact vec_len _
          have hUl : U.length ≤ 17 := by rw [← hU]; exact vec_len _
          have hUol : Uo.length ≤ 17 := by rw [← hUo]; exact vec_len _
          have mf : MF ⟨kind, site, vl, ml, .slice av vl.length cv, .slice am ml.length cm⟩ is V U Uo := by
            rw [← hV, ← hU, ← hUo, ← his, ← unhide hT]
            have g := jK.good (k : Int)
            rw [← unhide hT] at g
            exact MF.of (unhide Hw).2.2.1 _ _ ((unhide Hw).2.2.2 _) g.1 g.2
          have HMF := hide mf
          rw [hV, his] at HA
          have wk := jW.row k hk17
          simp only [if_neg (Nat.lt_irrefl k), hUo] at wk
          have HWk := hide wk
          obtain ⟨aw, cw, hvk⟩ := OwD.form wk
          have HJ' := hide (And.intro jK (And.intro jW (And.intro jB jQ)))
          have wk0 : (arrV vs)[k]? = some (.slice aw Uo.length cw) := by rw [arrV_get vs k hk17, hvk]
          replace wk0 := hide wk0
          replace hV := hide hV
          replace hU := hide hU
          replace his := hide his
          replace hUo := hide hUo
          replace hvk := hide hvk
          clear jK jW jB jQ mf wk HJ
          go_wp2_with fail
          refine (unhide HA).mono ?_
          rintro r W8 ⟨v8, rfl, ho8, hb8⟩
          obtain ⟨a8, c8, rfl⟩ := OwD.form ho8
          have jK8 := (unhide HJ').1.below hb8
          have HB := hide (KUsable_in jK8 (k : Int) k64)
          rw [unhide hU] at HB
          have H8 := hide (And.intro ho8 (And.intro hb8 jK8))
          clear HA ho8 hb8 jK8
          go_wp2_with fail
          refine (unhide HB).mono ?_
          rintro r W9 ⟨v9, rfl, ho9, hb9⟩
          obtain ⟨a9, c9, rfl⟩ := OwD.form ho9
          have hz8 := (unhide H8).2.1.size
          have rV : RI W9 (.slice a8 V.length c8) V := (unhide H8).1.row.below hb9
          have rU : RI W9 (.slice a9 U.length c9) U := ho9.row
          have hb89 := bnext (unhide H8).2.1 hb9
          have rO : RI W9 (.slice aw Uo.length cw) Uo := by have := (unhide HWk).row; rw [unhide hvk] at this; exact this.below hb89
          have rX : RI W9 (.slice av vl.length cv) vl := (unhide Hw).1.rv.below (bnext (unhide HJ').1.bel hb89)
          have hvl : vl.length ≤ 20000 := (unhide Hw).2.1.1
          have bxw : ∀ W, Below W9.heap.size W9 W → W.cell? ⟨bw, k, none⟩ = some (.slice aw Uo.length cw) := fun W hb => (((unhide HJ').2.1.box.below hb89).below hb).cell k _ (unhide wk0)
          have bx0 : ∀ W, Below W9.heap.size W9 W → W.cell? ⟨bx, 0, none⟩ = some (.int .i64 kind) := fun W hb => (((unhide HJ').2.2.1.below hb89).below hb).cell 0 _ rfl
          have bx2 : ∀ W, Below W9.heap.size W9 W → W.cell? ⟨bx, 2, none⟩ = some (.slice av vl.length cv) := fun W hb => (((unhide HJ').2.2.1.below hb89).below hb).cell 2 _ rfl
          -- what is called
          have C1 := hide (fun W (hb : Below W9.heap.size W9 W) => refCheck_in (.slice a8 V.length c8) V W (rV.below hb) (by omega))
          have C2 := hide (fun W (hb : Below W9.heap.size W9 W) => refCheck_in (.slice a9 U.length c9) U W (rU.below hb) (by omega))
          have C3 := hide (fun W (hb : Below W9.heap.size W9 W) => refCovers_in (.slice a8 V.length c8) (.slice a9 U.length c9) V U W (rV.below hb) (rU.below hb) (by omega) (by omega))
          have C4 := hide (fun W (hb : Below W9.heap.size W9 W) => refCovers_in (.slice a9 U.length c9) (.slice aw Uo.length cw) U Uo W (rU.below hb) (rO.below hb) (by omega) (by omega))
          have C5 := hide (fun W (hb : Below W9.heap.size W9 W) => vectors_in U Uo (.slice a9 U.length c9) (.slice aw Uo.length cw) W (rU.below hb) (rO.below hb) (by omega) (by omega))
          have C6 := hide (fun W (hb : Below W9.heap.size W9 W) => vectors_in U V (.slice a9 U.length c9) (.slice a8 V.length c8) W (rU.below hb) (rV.below hb) (by omega) (by omega))
          have C7 := hide (fun W (hb : Below W9.heap.size W9 W) => refCovers_in (.slice av vl.length cv) (.slice a9 U.length c9) vl U W (rX.below hb) (rU.below hb) (by omega) (by omega))
          have C8 := hide (fun W (hb : Below W9.heap.size W9 W) => refCheck_in (.slice av vl.length cv) vl W (rX.below hb) (by omega))
          have C9 := hide (fun W (hb : Below W9.heap.size W9 W) => refCovers_in (.slice av vl.length cv) (.slice a8 V.length c8) vl V W (rX.below hb) (rV.below hb) (by omega) (by omega))
          rw [(unhide HMF).cv] at C1
          rw [(unhide HMF).cu] at C2
          rw [(unhide HMF).vu] at C3
          rw [(unhide HMF).uo] at C4
          have BW := hide bxw
          have B0 := hide bx0
          have B2 := hide bx2
          -- the state behind
          have FIN : Hid (∀ W, Below W9.heap.size W9 W → ∃ vs' Q', KF Q' w (W.setCell ⟨bw, k, none⟩ (.slice a9 U.length c9)) bA (n + 1) T ∧ WAS Q' w (W.setCell ⟨bw, k, none⟩ (.slice a9 U.length c9)) bw vs' (fun j : Nat => if j < k + 1 then usR T (j : Int) else usR S (j : Int)) ∧ Bx (W.setCell ⟨bw, k, none⟩ (.slice a9 U.length c9)) bx 34 #[.int .i64 kind, .int .i64 site, .slice av vl.length cv, .slice am ml.length cm] ∧ Q' bx) := by
            intro W hb
            obtain ⟨jK, jW, jB, jQ⟩ := unhide HJ'
            have hbW := bnext hb89 hb
            have g1 := jK.grow hbW
            have w1 := (jW.below hbW).mono (Q' := fun i => Q i ∨ (wr.heap.size ≤ i ∧ i < W.heap.size)) (fun i h => .inl h)
            have hoU : OwD W w.heap.size (.slice a9 U.length c9) (vec (usR T (k : Int))) := by
              rw [unhide hU]
              exact OwD.base (owd_below ho9 hb) (by have := jK.bel.size; omega)
            have hne : ∀ v l, OwD W w.heap.size v l → v.ownBlock ≠ some bw := fun v l h => owd_ne_was w1.box h
            have w2 := w1.set k hk17 _ _ hoU (fun i hi => .inr ⟨by have := (ho9.lt i hi).1; omega, (hoU.lt i hi).2⟩) hne
            have e : (fun j : Nat => if j = k then usR T (k : Int) else if j < k then usR T (j : Int) else usR S (j : Int)) = fun j : Nat => if j < k + 1 then usR T (j : Int) else usR S (j : Int) := by
              funext j
              by_cases h1 : j = k
              · subst h1; rw [if_pos rfl, if_pos (by omega)]
              · rw [if_neg h1]
                by_cases h2 : j < k
                · rw [if_pos h2, if_pos (by omega)]
                · rw [if_neg h2, if_neg (by omega)]
            rw [e] at w2
            have ks := Kp.set (N := fun i => i = bw) W ⟨bw, k, none⟩ (.slice a9 U.length c9) rfl
            have hbwne : bx ≠ bw := fun e => by
              have b1 := jB
              have b2 := jW.box
              rw [e] at b1
              unfold Bx at b1 b2
              rw [b1] at b2
              simp at b2
            refine ⟨_, _, g1.kp ks (fun i e => by rw [e]; exact w1.qb) (fun i e => ?_), w2, (jB.below hbW).kp ks hbwne, .inl jQ⟩
            rw [e]
            exact unhide hbw0
          have fw : ∀ W, Below W9.heap.size W9 W → W.frozen? ⟨bw, k, none⟩ = false := fun W hb => (((unhide HJ').2.1.box.below hb89).below hb).frozen k
          have FW := hide fw
          have bw9 : bw < W9.heap.size := ((unhide HJ').2.1.box.below hb89).lt
          have bx9 : bx < W9.heap.size := ((unhide HJ').2.2.1.below hb89).lt
          clear HB ho9 hb9 rV rU rO rX hb89 bxw bx0 bx2 fw
          have hb0 := hide (Below.refl W9.heap.size W9)
          go_wp2_with fail
          refine (unhide C1 _ (unhide hb0)).mono ?_
          rintro r Wc1 ⟨rfl, hx1⟩
          have hb1 := hide (bnext (unhide hb0) hx1)
          clear hx1
          go_wp2_with fail
          refine (unhide C2 _ (unhide hb1)).mono ?_
          rintro r Wc2 ⟨rfl, hx2⟩
          have hb2 := hide (bnext (unhide hb1) hx2)
          clear hx2
          go_wp2_with fail
          refine (unhide C3 _ (unhide hb2)).mono ?_
          rintro r Wc3 ⟨rfl, hx3⟩
          have hb3 := hide (bnext (unhide hb2) hx3)
          clear hx3
          have d3 := unhide BW _ (unhide hb3)
          have e3 := unhide B0 _ (unhide hb3)
          have g3 := unhide B2 _ (unhide hb3)
          go_wp2_with fail
          refine (unhide C4 _ (unhide hb3)).mono ?_
          rintro r Wc4 ⟨rfl, hx4⟩
          have hb4 := hide (bnext (unhide hb3) hx4)
          clear hx4
          clear d3 e3 g3
          cases is with
          | true =>
            by_cases hUU : U = Uo
            · rw [show decide (U = Uo) = true from decide_eq_true hUU] at C5
              replace hUU := hide hUU
              have d4 := unhide BW _ (unhide hb4)
              have e4 := unhide B0 _ (unhide hb4)
              have g4 := unhide B2 _ (unhide hb4)
              go_wp2_with fail
              refine (unhide C5 _ (unhide hb4)).mono ?_
              rintro r Wc5 ⟨rfl, nd5, hq5⟩
              have hb5 := hide (show Below W9.heap.size W9 Wc5 by rw [hq5]; exact bdrew (unhide hb4) nd5)
              clear hq5
              clear d4 e4 g4
              by_cases hk2 : kind = 2
              · subst hk2
                obtain ⟨cx, hcx⟩ : ∃ c, chk vl = c := ⟨_, rfl⟩
                rw [hcx] at C8
                by_cases hc0 : cx = 0
                rotate_left
                · have hc0' : (cx == 0) = false := by simpa using hc0
                  have d5 := unhide BW _ (unhide hb5)
                  have e5 := unhide B0 _ (unhide hb5)
                  have g5 := unhide B2 _ (unhide hb5)
                  go_wp2_with fail
                  refine (unhide C8 _ (unhide hb5)).mono ?_
                  rintro r Wc6 ⟨rfl, hx6⟩
                  have hb6 := hide (bnext (unhide hb5) hx6)
                  clear hx6
                  clear d5 e5 g5
                  have HF := hide (unhide FIN _ (unhide hb6))
                  have ff := unhide FW _ (unhide hb6)
                  have dd := unhide BW _ (unhide hb6)
                  have bwl := Nat.lt_of_lt_of_le bw9 (unhide hb6).size
                  clear C1 C2 C3 C4 C5 C6 C7 C8 C9
                  go_wp2
                  go_roundw
                  case measure => show 17 - ((k : Int) + 1).toNat < 17 - ((k : Nat) : Int).toNat; omega
                  case rel =>
                    obtain ⟨vs', Q', h⟩ := unhide HF
                    exact ⟨k + 1, vs', Q', by go_num, by omega, by omega, hide h⟩
                subst hc0
                have d5 := unhide BW _ (unhide hb5)
                have e5 := unhide B0 _ (unhide hb5)
                have g5 := unhide B2 _ (unhide hb5)
                go_wp2_with fail
                refine (unhide C8 _ (unhide hb5)).mono ?_
                rintro r Wc6 ⟨rfl, hx6⟩
                have hb6 := hide (bnext (unhide hb5) hx6)
                clear hx6
                clear d5 e5 g5
                have d6 := unhide BW _ (unhide hb6)
                have e6 := unhide B0 _ (unhide hb6)
                have g6 := unhide B2 _ (unhide hb6)
                obtain ⟨cy, hcy⟩ : ∃ c, cov (sy vl) (sy V) = c := ⟨_, rfl⟩
                rw [hcy] at C9
                go_wp2_with fail
                refine (unhide C9 _ (unhide hb6)).mono ?_
                rintro r Wc7 ⟨rfl, hx7⟩
                have hb7 := hide (bnext (unhide hb6) hx7)
                clear hx7
                clear d6 e6 g6
                cases cy with
                | false =>
                  have HF := hide (unhide FIN _ (unhide hb7))
                  have ff := unhide FW _ (unhide hb7)
                  have dd := unhide BW _ (unhide hb7)
                  have bwl := Nat.lt_of_lt_of_le bw9 (unhide hb7).size
                  clear C1 C2 C3 C4 C5 C6 C7 C8 C9
                  go_wp2
                  go_roundw
                  case measure => show 17 - ((k : Int) + 1).toNat < 17 - ((k : Nat) : Int).toNat; omega
                  case rel =>
                    obtain ⟨vs', Q', h⟩ := unhide HF
                    exact ⟨k + 1, vs', Q', by go_num, by omega, by omega, hide h⟩
                | true =>
                  have hUV := (unhide HMF).st rfl hcx rfl hcy
                  (try rw [show decide (U = V) = true from decide_eq_true hUV] at C6)
                  clear hUV
                  go_wp2_with fail
                  refine (unhide C6 _ (unhide hb7)).mono ?_
                  rintro r Wc8 ⟨rfl, nd8, hq8⟩
                  have hb8 := hide (show Below W9.heap.size W9 Wc8 by rw [hq8]; exact bdrew (unhide hb7) nd8)
                  clear hq8
                  have HF := hide (unhide FIN _ (unhide hb8))
                  have ff := unhide FW _ (unhide hb8)
                  have dd := unhide BW _ (unhide hb8)
                  have bwl := Nat.lt_of_lt_of_le bw9 (unhide hb8).size
                  clear C1 C2 C3 C4 C5 C6 C7 C8 C9
                  go_wp2
                  go_roundw
                  case measure => show 17 - ((k : Int) + 1).toNat < 17 - ((k : Nat) : Int).toNat; omega
                  case rel =>
                    obtain ⟨vs', Q', h⟩ := unhide HF
                    exact ⟨k + 1, vs', Q', by go_num, by omega, by omega, hide h⟩
              · have hk2' : (kind == 2) = false := by simpa using hk2
                have d5 := unhide BW _ (unhide hb5)
                have e5 := unhide B0 _ (unhide hb5)
                have g5 := unhide B2 _ (unhide hb5)
                have HF := hide (unhide FIN _ (unhide hb5))
                have ff := unhide FW _ (unhide hb5)
                have dd := unhide BW _ (unhide hb5)
                have bwl := Nat.lt_of_lt_of_le bw9 (unhide hb5).size
                clear C1 C2 C3 C4 C5 C6 C7 C8 C9
                go_wp2
                go_roundw
                case measure => show 17 - ((k : Int) + 1).toNat < 17 - ((k : Nat) : Int).toNat; omega
                case rel =>
                  obtain ⟨vs', Q', h⟩ := unhide HF
                  exact ⟨k + 1, vs', Q', by go_num, by omega, by omega, hide h⟩
            · rw [show decide (U = Uo) = false from decide_eq_false hUU] at C5
              obtain ⟨hk2, hUV, hcv⟩ := (unhide HMF).ch hUU
              simp only at hk2 hcv
              subst hk2
              (try rw [show decide (U = V) = true from decide_eq_true hUV] at C6)
              rw [hcv] at C7
              clear hUU hUV hcv
              have d4 := unhide BW _ (unhide hb4)
              have e4 := unhide B0 _ (unhide hb4)
              have g4 := unhide B2 _ (unhide hb4)
              go_wp2_with fail
              refine (unhide C5 _ (unhide hb4)).mono ?_
              rintro r Wc5 ⟨rfl, nd5, hq5⟩
              have hb5 := hide (show Below W9.heap.size W9 Wc5 by rw [hq5]; exact bdrew (unhide hb4) nd5)
              clear hq5
              clear d4 e4 g4
              have d5 := unhide BW _ (unhide hb5)
              have e5 := unhide B0 _ (unhide hb5)
              have g5 := unhide B2 _ (unhide hb5)
              go_wp2_with fail
              refine (unhide C6 _ (unhide hb5)).mono ?_
              rintro r Wc6 ⟨rfl, nd6, hq6⟩
              have hb6 := hide (show Below W9.heap.size W9 Wc6 by rw [hq6]; exact bdrew (unhide hb5) nd6)
              clear hq6
              clear d5 e5 g5
              have d6 := unhide BW _ (unhide hb6)
              have e6 := unhide B0 _ (unhide hb6)
              have g6 := unhide B2 _ (unhide hb6)
              go_wp2_with fail
              refine (unhide C7 _ (unhide hb6)).mono ?_
              rintro r Wc7 ⟨rfl, hx7⟩
              have hb7 := hide (bnext (unhide hb6) hx7)
              clear hx7
              clear d6 e6 g6
              obtain ⟨cx, hcx⟩ : ∃ c, chk vl = c := ⟨_, rfl⟩
              rw [hcx] at C8
              by_cases hc0 : cx = 0
              rotate_left
              · have hc0' : (cx == 0) = false := by simpa using hc0
                have d7 := unhide BW _ (unhide hb7)
                have e7 := unhide B0 _ (unhide hb7)
                have g7 := unhide B2 _ (unhide hb7)
                go_wp2_with fail
                refine (unhide C8 _ (unhide hb7)).mono ?_
                rintro r Wc8 ⟨rfl, hx8⟩
                have hb8 := hide (bnext (unhide hb7) hx8)
                clear hx8
                clear d7 e7 g7
                have HF := hide (unhide FIN _ (unhide hb8))
                have ff := unhide FW _ (unhide hb8)
                have dd := unhide BW _ (unhide hb8)
                have bwl := Nat.lt_of_lt_of_le bw9 (unhide hb8).size
                clear C1 C2 C3 C4 C5 C6 C7 C8 C9
                go_wp2
                go_roundw
                case measure => show 17 - ((k : Int) + 1).toNat < 17 - ((k : Nat) : Int).toNat; omega
                case rel =>
                  obtain ⟨vs', Q', h⟩ := unhide HF
                  exact ⟨k + 1, vs', Q', by go_num, by omega, by omega, hide h⟩
              subst hc0
              have d7 := unhide BW _ (unhide hb7)
              have e7 := unhide B0 _ (unhide hb7)
              have g7 := unhide B2 _ (unhide hb7)
              go_wp2_with fail
              refine (unhide C8 _ (unhide hb7)).mono ?_
              rintro r Wc8 ⟨rfl, hx8⟩
              have hb8 := hide (bnext (unhide hb7) hx8)
              clear hx8
              clear d7 e7 g7
              have d8 := unhide BW _ (unhide hb8)
              have e8 := unhide B0 _ (unhide hb8)
              have g8 := unhide B2 _ (unhide hb8)
              obtain ⟨cy, hcy⟩ : ∃ c, cov (sy vl) (sy V) = c := ⟨_, rfl⟩
              rw [hcy] at C9
              go_wp2_with fail
              refine (unhide C9 _ (unhide hb8)).mono ?_
              rintro r Wc9 ⟨rfl, hx9⟩
              have hb9 := hide (bnext (unhide hb8) hx9)
              clear hx9
              clear d8 e8 g8
              cases cy with
              | false =>
                have HF := hide (unhide FIN _ (unhide hb9))
                have ff := unhide FW _ (unhide hb9)
                have dd := unhide BW _ (unhide hb9)
                have bwl := Nat.lt_of_lt_of_le bw9 (unhide hb9).size
                clear C1 C2 C3 C4 C5 C6 C7 C8 C9
                go_wp2
                go_roundw
                case measure => show 17 - ((k : Int) + 1).toNat < 17 - ((k : Nat) : Int).toNat; omega
                case rel =>
                  obtain ⟨vs', Q', h⟩ := unhide HF
                  exact ⟨k + 1, vs', Q', by go_num, by omega, by omega, hide h⟩
              | true =>
                have hUV := (unhide HMF).st rfl hcx rfl hcy
                (try rw [show decide (U = V) = true from decide_eq_true hUV] at C6)
                clear hUV
                go_wp2_with fail
                refine (unhide C6 _ (unhide hb9)).mono ?_
                rintro r Wc10 ⟨rfl, nd10, hq10⟩
                have hb10 := hide (show Below W9.heap.size W9 Wc10 by rw [hq10]; exact bdrew (unhide hb9) nd10)
                clear hq10
                have HF := hide (unhide FIN _ (unhide hb10))
                have ff := unhide FW _ (unhide hb10)
                have dd := unhide BW _ (unhide hb10)
                have bwl := Nat.lt_of_lt_of_le bw9 (unhide hb10).size
                clear C1 C2 C3 C4 C5 C6 C7 C8 C9
                go_wp2
                go_roundw
                case measure => show 17 - ((k : Int) + 1).toNat < 17 - ((k : Nat) : Int).toNat; omega
                case rel =>
                  obtain ⟨vs', Q', h⟩ := unhide HF
                  exact ⟨k + 1, vs', Q', by go_num, by omega, by omega, hide h⟩
          | false =>
            have hU0 : U.length = 0 := by rw [(unhide HMF).no rfl]; rfl
            have hU0' : ¬ (0 : Int) < (U.length : Int) := by omega
            replace hU0 := hide hU0
            by_cases hUU : U = Uo
            · rw [show decide (U = Uo) = true from decide_eq_true hUU] at C5
              replace hUU := hide hUU
              have d4 := unhide BW _ (unhide hb4)
              have e4 := unhide B0 _ (unhide hb4)
              have g4 := unhide B2 _ (unhide hb4)
              go_wp2_with fail
              refine (unhide C5 _ (unhide hb4)).mono ?_
              rintro r Wc5 ⟨rfl, nd5, hq5⟩
              have hb5 := hide (show Below W9.heap.size W9 Wc5 by rw [hq5]; exact bdrew (unhide hb4) nd5)
              clear hq5
              clear d4 e4 g4
              by_cases hk2 : kind = 2
              · subst hk2
                obtain ⟨cx, hcx⟩ : ∃ c, chk vl = c := ⟨_, rfl⟩
                rw [hcx] at C8
                by_cases hc0 : cx = 0
                rotate_left
                · have hc0' : (cx == 0) = false := by simpa using hc0
                  have d5 := unhide BW _ (unhide hb5)
                  have e5 := unhide B0 _ (unhide hb5)
                  have g5 := unhide B2 _ (unhide hb5)
                  go_wp2_with fail
                  refine (unhide C8 _ (unhide hb5)).mono ?_
                  rintro r Wc6 ⟨rfl, hx6⟩
                  have hb6 := hide (bnext (unhide hb5) hx6)
                  clear hx6
                  clear d5 e5 g5
                  have HF := hide (unhide FIN _ (unhide hb6))
                  have ff := unhide FW _ (unhide hb6)
                  have dd := unhide BW _ (unhide hb6)
                  have bwl := Nat.lt_of_lt_of_le bw9 (unhide hb6).size
                  clear C1 C2 C3 C4 C5 C6 C7 C8 C9
                  go_wp2
                  go_roundw
                  case measure => show 17 - ((k : Int) + 1).toNat < 17 - ((k : Nat) : Int).toNat; omega
                  case rel =>
                    obtain ⟨vs', Q', h⟩ := unhide HF
                    exact ⟨k + 1, vs', Q', by go_num, by omega, by omega, hide h⟩
                subst hc0
                have d5 := unhide BW _ (unhide hb5)
                have e5 := unhide B0 _ (unhide hb5)
                have g5 := unhide B2 _ (unhide hb5)
                go_wp2_with fail
                refine (unhide C8 _ (unhide hb5)).mono ?_
                rintro r Wc6 ⟨rfl, hx6⟩
                have hb6 := hide (bnext (unhide hb5) hx6)
                clear hx6
                clear d5 e5 g5
                have HF := hide (unhide FIN _ (unhide hb6))
                have ff := unhide FW _ (unhide hb6)
                have dd := unhide BW _ (unhide hb6)
                have bwl := Nat.lt_of_lt_of_le bw9 (unhide hb6).size
                clear C1 C2 C3 C4 C5 C6 C7 C8 C9
                go_wp2
                go_roundw
                case measure => show 17 - ((k : Int) + 1).toNat < 17 - ((k : Nat) : Int).toNat; omega
                case rel =>
                  obtain ⟨vs', Q', h⟩ := unhide HF
                  exact ⟨k + 1, vs', Q', by go_num, by omega, by omega, hide h⟩
              · have hk2' : (kind == 2) = false := by simpa using hk2
                have d5 := unhide BW _ (unhide hb5)
                have e5 := unhide B0 _ (unhide hb5)
                have g5 := unhide B2 _ (unhide hb5)
                have HF := hide (unhide FIN _ (unhide hb5))
                have ff := unhide FW _ (unhide hb5)
                have dd := unhide BW _ (unhide hb5)
                have bwl := Nat.lt_of_lt_of_le bw9 (unhide hb5).size
                clear C1 C2 C3 C4 C5 C6 C7 C8 C9
                go_wp2
                go_roundw
                case measure => show 17 - ((k : Int) + 1).toNat < 17 - ((k : Nat) : Int).toNat; omega
                case rel =>
                  obtain ⟨vs', Q', h⟩ := unhide HF
                  exact ⟨k + 1, vs', Q', by go_num, by omega, by omega, hide h⟩
            · rw [show decide (U = Uo) = false from decide_eq_false hUU] at C5
              obtain ⟨hk2, hUV, hcv⟩ := (unhide HMF).ch hUU
              simp only at hk2 hcv
              subst hk2
              (try rw [show decide (U = V) = true from decide_eq_true hUV] at C6)
              rw [hcv] at C7
              clear hUU hUV hcv
              have d4 := unhide BW _ (unhide hb4)
              have e4 := unhide B0 _ (unhide hb4)
              have g4 := unhide B2 _ (unhide hb4)
              go_wp2_with fail
              refine (unhide C5 _ (unhide hb4)).mono ?_
              rintro r Wc5 ⟨rfl, nd5, hq5⟩
              have hb5 := hide (show Below W9.heap.size W9 Wc5 by rw [hq5]; exact bdrew (unhide hb4) nd5)
              clear hq5
              clear d4 e4 g4
              have d5 := unhide BW _ (unhide hb5)
              have e5 := unhide B0 _ (unhide hb5)
              have g5 := unhide B2 _ (unhide hb5)
              go_wp2_with fail
              refine (unhide C6 _ (unhide hb5)).mono ?_
              rintro r Wc6 ⟨rfl, nd6, hq6⟩
              have hb6 := hide (show Below W9.heap.size W9 Wc6 by rw [hq6]; exact bdrew (unhide hb5) nd6)
              clear hq6
              clear d5 e5 g5
              have d6 := unhide BW _ (unhide hb6)
              have e6 := unhide B0 _ (unhide hb6)
              have g6 := unhide B2 _ (unhide hb6)
              go_wp2_with fail
              refine (unhide C7 _ (unhide hb6)).mono ?_
              rintro r Wc7 ⟨rfl, hx7⟩
              have hb7 := hide (bnext (unhide hb6) hx7)
              clear hx7
              clear d6 e6 g6
              obtain ⟨cx, hcx⟩ : ∃ c, chk vl = c := ⟨_, rfl⟩
              rw [hcx] at C8
              by_cases hc0 : cx = 0
              rotate_left
              · have hc0' : (cx == 0) = false := by simpa using hc0
                have d7 := unhide BW _ (unhide hb7)
                have e7 := unhide B0 _ (unhide hb7)
                have g7 := unhide B2 _ (unhide hb7)
                go_wp2_with fail
                refine (unhide C8 _ (unhide hb7)).mono ?_
                rintro r Wc8 ⟨rfl, hx8⟩
                have hb8 := hide (bnext (unhide hb7) hx8)
                clear hx8
                clear d7 e7 g7
                have HF := hide (unhide FIN _ (unhide hb8))
                have ff := unhide FW _ (unhide hb8)
                have dd := unhide BW _ (unhide hb8)
                have bwl := Nat.lt_of_lt_of_le bw9 (unhide hb8).size
                clear C1 C2 C3 C4 C5 C6 C7 C8 C9
                go_wp2
                go_roundw
                case measure => show 17 - ((k : Int) + 1).toNat < 17 - ((k : Nat) : Int).toNat; omega
                case rel =>
                  obtain ⟨vs', Q', h⟩ := unhide HF
                  exact ⟨k + 1, vs', Q', by go_num, by omega, by omega, hide h⟩
              subst hc0
              have d7 := unhide BW _ (unhide hb7)
              have e7 := unhide B0 _ (unhide hb7)
              have g7 := unhide B2 _ (unhide hb7)
              go_wp2_with fail
              refine (unhide C8 _ (unhide hb7)).mono ?_
              rintro r Wc8 ⟨rfl, hx8⟩
              have hb8 := hide (bnext (unhide hb7) hx8)
              clear hx8
              clear d7 e7 g7
              have HF := hide (unhide FIN _ (unhide hb8))
              have ff := unhide FW _ (unhide hb8)
              have dd := unhide BW _ (unhide hb8)
              have bwl := Nat.lt_of_lt_of_le bw9 (unhide hb8).size
              clear C1 C2 C3 C4 C5 C6 C7 C8 C9
              go_wp2
              go_roundw
              case measure => show 17 - ((k : Int) + 1).toNat < 17 - ((k : Nat) : Int).toNat; omega
              case rel =>
                obtain ⟨vs', Q', h⟩ := unhide HF
                exact ⟨k + 1, vs', Q', by go_num, by omega, by omega, hide h⟩
        · have hk' : ¬ (k : Int) ≤ 16 := by omega
          have HI : Hid (∃ vs Q, KF Q w wr bA (n + 1) T ∧ WAS Q w wr bw vs (fun k : Nat => usR T (k : Int)) ∧ MI T) := by
            obtain ⟨jK, jW, -, -⟩ := unhide HJ
            refine ⟨vs, Q, jK, ⟨jW.box, fun j hj => ?_, jW.qb, jW.qk⟩, by rw [← unhide hT]; exact (unhide Hw).2.2.1.do _⟩
            have := jW.row j hj
            simp only [if_pos (show j < k by omega)] at this
            exact this
          clear HJ
          go_wp2
          go_roundw
          case measure => show len0 - ((i : Int) + 1).toNat < len0 - ((i : Nat) : Int).toNat; omega
          case rel =>
            obtain ⟨vs, Q, h⟩ := unhide HI
            exact ⟨i + 1, n + 1, T, vs, Q, by go_num, by omega, by omega, hide h⟩
    · have hlt' : ¬ (i : Int) < (len0 : Int) := by omega
      obtain ⟨hK, -, -⟩ := unhide HI
      have HKf := hide hK
      have hG := fun k => (hK.good k).2
      have HG := hide hG
      have HF := hide (KFrontier_in hK _ ms ((unhide Hr1).below hK.bel) (by have := unhide hml; omega) (unhide H64) self _ own ((unhide Hr3).below hK.bel) (by have := unhide Hol; omega))
      obtain ⟨FR0, hFR⟩ : ∃ F, Fro S ms self own = F := ⟨_, rfl⟩
      rw [hFR] at HF
      replace hFR := hide hFR
      clear HI hK hG hi hn hlt
      go_wp2_with fail
      refine (unhide HF).mono ?_
      rintro r W3 ⟨v3, rfl, ho3, hb3⟩
      obtain ⟨a4, c4, rfl⟩ := OwD.form ho3
      have K3 := hide ((unhide HKf).below hb3)
      have O3 := hide ho3
      have HC := hide (refCheck_in _ own W3 ((unhide Hr3).below (unhide K3).bel) (by have := unhide Hol; omega))
      obtain ⟨ck, hck⟩ : ∃ c, chk own = c := ⟨_, rfl⟩
      rw [hck] at HC
      replace hck := hide hck
      clear HF ho3 hb3 HKf
      go_wp2_with fail
      refine (unhide HC).mono ?_
      rintro r W4 ⟨rfl, hb4⟩
      have K4 := hide ((unhide K3).below hb4)
      have O4 := hide (owd_below (unhide O3) hb4)
      clear HC hb4 K3 O3
      by_cases hc0 : ck = 0
      rotate_left
      · have hc0' : (ck == 0) = false := by simpa using hc0
        have hF0 : FR0 = [] := by rw [← unhide hFR]; unfold Fro; rw [if_neg (by rw [unhide hck]; exact hc0)]
        subst hF0
        have B4 := hide (unhide K4).bel
        simp only [List.length_nil]
        go_wp2_with fail
        refine (unhide tail _ B4).mono ?_
        rintro r W5 ⟨rfl, hb5⟩
        replace hb5 := hide hb5
        go_wp2
        go_ret
        exact ⟨rfl, unhide hb5⟩
      subst hc0
      obtain ⟨fr, hfr⟩ : ∃ f, frR S (ms.filter fun x => !(x == self)) (sy own) = f := ⟨_, rfl⟩
      have hF0 : FR0 = vec fr := by rw [← unhide hFR, ← hfr]; unfold Fro; rw [if_pos (unhide hck)]
      have gf : Good fr := by rw [← hfr]; exact frR_good (unhide HG) _ (sy_good own)
      subst hF0
      have hfl : (vec fr).length ≤ 17 := vec_len fr
      have HC1 := hide (fun W (hb : Below W4.heap.size W4 W) => refCheck_in (.slice a4 (vec fr).length c4) (vec fr) W ((unhide O4).row.below hb) (by omega))
      have HC2 := hide (fun W (hb : Below W4.heap.size W4 W) => refCovers_in (.slice a3 len3 cap3) (.slice a4 (vec fr).length c4) own (vec fr) W (((unhide Hr3).below (unhide K4).bel).below hb) ((unhide O4).row.below hb) (by have := unhide Hol; omega) (by omega))
      have HG1 := hide (fun W (hb : Below W4.heap.size W4 W) (k : Int) => refGet_in (.slice a3 len3 cap3) own k W (((unhide Hr3).below (unhide K4).bel).below hb) (by have := unhide Hol; omega))
      have HG2 := hide (fun W (hb : Below W4.heap.size W4 W) (k : Int) => refGet_in (.slice a4 (vec fr).length c4) (vec fr) k W ((unhide O4).row.below hb) (by omega))
      rw [chk_vec gf] at HC1
      rw [sy_vec gf, show cov (sy own) fr = true by rw [← hfr]; exact fro_own _ _ _] at HC2
      have Hfr := hide hfr
      have Gf := hide gf
      obtain ⟨fl, hfl2⟩ : ∃ n, (vec fr).length = n := ⟨_, rfl⟩
      have HO4 := hide (unhide O4)
      rw [hfl2] at HC1 HC2 HG2 HO4 hfl ⊢
      replace hfl2 := hide hfl2
      clear hfr gf O4
      have hb0 := hide (Below.refl W4.heap.size W4)
      go_wp2_with fail
      refine (unhide HC1 _ (unhide hb0)).mono ?_
      rintro r W5 ⟨rfl, hb5⟩
      replace hb5 := hide hb5
      clear HC1
      go_wp2_with fail
      refine (unhide HC2 _ (unhide hb5)).mono ?_
      rintro r W6 ⟨rfl, hb6⟩
      have hb6' := hide (bnext (unhide hb5) hb6)
      clear HC2 hb5 hb6 hb0
      go_wp2
      go_loopw [20, 21, 22, 23] (fun kv _ _ _ wr => ∃ (k : Nat), kv = .int .i64 (k : Nat) ∧ 1 ≤ k ∧ k ≤ 17 ∧ Hid (Below W4.heap.size W4 wr)) (fun kv _ _ _ _ => 17 - (Lib.intOf kv).toNat)
      case atStart => exact ⟨1, rfl, by omega, by omega, hb6'⟩
      case round =>
        clear hb6'
        obtain ⟨k, rfl, hk1, hk2, HB⟩ := hrel
        by_cases hk : k ≤ 16
        · have hk' : (k : Int) ≤ 16 := by omega
          have HG1k := hide (unhide HG1 wr (unhide HB) (k : Int))
          rw [show getV own (k : Int) = sy own k by unfold getV; rw [if_pos ⟨by omega, hk'⟩]; simp] at HG1k
          go_wp2_with fail
          refine (unhide HG1k).mono ?_
          rintro r W7 ⟨rfl, hb7⟩
          have HB7 := hide (bnext (unhide HB) hb7)
          clear HG1k hb7 HB
          go_wp2
          go_loopw [21, 22, 23] (fun lv jv _ wr => ∃ (j : Nat) (x : Int), jv = .int .i64 (j : Nat) ∧ j ≤ len1 ∧ lv = .int .i64 x ∧ Hid (x = frR S ((ms.take j).filter fun x => !(x == self)) (sy own) k) ∧ Hid (Below W4.heap.size W4 wr)) (fun _ jv _ _ => len1 - (Lib.intOf jv).toNat)
          case atStart => exact ⟨0, _, rfl, by omega, rfl, hide rfl, HB7⟩
          case round =>
            clear HB7
            obtain ⟨j, x, rfl, hj, rfl, HX, HB⟩ := hrel
            by_cases hlt : j < len1
            · have hlt' : (j : Int) < (len1 : Int) := by omega
              have hjm : j < ms.length := by rw [unhide Hln1]; exact hlt
              have bw4 := bnext (unhide K4).bel (unhide HB)
              obtain ⟨b0, off, rfl, hb0, q0⟩ := RN.at ((unhide Hr1).below bw4) (List.getElem?_eq_getElem hjm)
              have q0w := hide (fun W (hb : Below wr.heap.size wr W) => cell_below q0 hb)
              have m64 := unhide H64 _ (List.getElem_mem hjm)
              have htk : ms.take (j + 1) = ms.take j ++ [ms[j]] := by rw [List.take_add_one, List.getElem?_eq_getElem hjm]; rfl
              by_cases hs : ms[j] = self
              · have HX2 : Hid (x = frR S ((ms.take (j + 1)).filter fun x => !(x == self)) (sy own) k) := by
                  rw [htk, List.filter_append, hs]
                  exact hide (by simpa using unhide HX)
                have hse : (ms[j] == self) = true := by simpa using hs
                generalize ms[j] = m at *
                clear hs htk HX bw4
                go_wp2
                go_roundw
                case measure => show len1 - ((j : Int) + 1).toNat < len1 - ((j : Nat) : Int).toNat; omega
                case rel => exact ⟨j + 1, x, by go_num, by omega, rfl, HX2, HB⟩
              · have hse : (ms[j] == self) = false := by simpa using hs
                have hfs : frR S ((ms.take (j + 1)).filter fun x => !(x == self)) (sy own) k = min (frR S ((ms.take j).filter fun x => !(x == self)) (sy own) k) (usR S ms[j] k) := by
                  rw [htk, List.filter_append]
                  have : [ms[j]].filter (fun x => !(x == self)) = [ms[j]] := by simp [hse]
                  rw [this, frR_snoc]
                  rfl
                rw [← unhide HX] at hfs
                have Hfs := hide hfs
                have HU := hide (KUsable_in ((unhide K4).below (unhide HB)) ms[j] m64)
                have gu := unhide HG ms[j]
                generalize ms[j] = m at *
                have hvl : (vec (usR S m)).length ≤ 17 := vec_len _
                clear hs htk HX bw4 hfs
                go_wp2_with fail
                refine (unhide HU).mono ?_
                rintro r W8 ⟨v8, rfl, ho8, hb8⟩
                have HGt := hide (refGet_in v8 _ (k : Int) W8 ho8.row (by omega))
                rw [show getV (vec (usR S m)) (k : Int) = usR S m k by unfold getV; rw [if_pos ⟨by omega, hk'⟩, sy_vec gu]; simp] at HGt
                obtain ⟨a8, c8, rfl⟩ := OwD.form ho8
                have HB8 := hide (bnext (unhide HB) hb8)
                obtain ⟨y, hy⟩ : ∃ y, usR S m k = y := ⟨_, rfl⟩
                rw [hy] at HGt Hfs
                clear HU ho8 hb8 hy
                go_wp2_with fail
                refine (unhide HGt).mono ?_
                rintro r W9 ⟨rfl, hb9⟩
                have HB9 := hide (bnext (unhide HB8) hb9)
                clear HGt hb9 HB8 HB
                by_cases hyx : y < x
                · have HX2 : Hid (y = frR S ((ms.take (j + 1)).filter fun x => !(x == self)) (sy own) k) := by rw [unhide Hfs]; exact hide (by omega)
                  go_wp2
                  go_roundw
                  case measure => show len1 - ((j : Int) + 1).toNat < len1 - ((j : Nat) : Int).toNat; omega
                  case rel => exact ⟨j + 1, y, by go_num, by omega, rfl, HX2, HB9⟩
                · have HX2 : Hid (x = frR S ((ms.take (j + 1)).filter fun x => !(x == self)) (sy own) k) := by rw [unhide Hfs]; exact hide (by omega)
                  go_wp2
                  go_roundw
                  case measure => show len1 - ((j : Int) + 1).toNat < len1 - ((j : Nat) : Int).toNat; omega
                  case rel => exact ⟨j + 1, x, by go_num, by omega, rfl, HX2, HB9⟩
            · have hlt' : ¬ (j : Int) < (len1 : Int) := by omega
              have hxf : x = fr k := by
                have := unhide HX
                rw [List.take_of_length_le (by rw [unhide Hln1]; omega), unhide Hfr] at this
                exact this
              have HG2k := hide (unhide HG2 wr (unhide HB) (k : Int))
              rw [show getV (vec fr) (k : Int) = fr k by unfold getV; rw [if_pos ⟨by omega, hk'⟩, sy_vec (unhide Gf)]; simp, ← hxf] at HG2k
              clear hxf HX
              go_wp2_with fail
              refine (unhide HG2k).mono ?_
              rintro r W8 ⟨rfl, hb8⟩
              have HB8 := hide (bnext (unhide HB) hb8)
              clear HG2k hb8 HB
              go_wp2
              go_roundw
              case measure => show 17 - ((k : Int) + 1).toNat < 17 - ((k : Nat) : Int).toNat; omega
              case rel => exact ⟨k + 1, by go_num, by omega, by omega, HB8⟩
        · have hk' : ¬ (k : Int) ≤ 16 := by omega
          clear HG1 HG2 hk1 hk2 hk
          obtain ⟨v7, W7, hr7, hO7, hg7, -⟩ := append_int wr 32 W4.heap.size (.slice none 0 0) [] more (World.ownsRow_nil _ _ _ _) (unhide HB).size (by simp)
          have B7 : Hid (Below W4.heap.size W4 W7) := hide ((Kp.of_grown (N := fun _ => False) hg7 (fun k hk => by cases hk)).below (ballc (unhide HB) _) (fun i h => h.elim))
          obtain ⟨a7, c7, rfl⟩ := OwN.form hO7
          replace hr7 := hide hr7
          replace hO7 := hide hO7
          simp only [List.nil_append, List.length_cons, List.length_nil, Nat.zero_add] at hr7 hO7
          clear hg7 HB
          go_wp2_with (at_builtin; refine wpList_append_eq rfl _ _ 32 rfl _ _ _ _ rfl rfl (unhide hr7) ?_)
          go_loopw [24, 25] (fun wv jv wr => ∃ (x : Int) (a' : Option Addr) (c' : Nat) (l : List Int), jv = .int .i64 x ∧ -1 ≤ x ∧ x < (len1 : Int) ∧ wv = .slice a' (l.length + 1) c' ∧ (l.length : Int) + 2 * x ≤ 200 ∧ Hid (OwN wr W4.heap.size (.slice a' (l.length + 1) c') (more :: l)) ∧ Hid ((∀ m ∈ l, m ∈ ms) ∧ ∀ m ∈ ms.drop (x + 1).toNat, m ∈ l) ∧ Hid (Below W4.heap.size W4 wr)) (fun _ jv _ => (Lib.intOf jv + 1).toNat)
          case atStart => exact ⟨_, _, _, [], rfl, by omega, by omega, rfl, by simp; omega, hO7, hide ⟨fun m hm => (by cases hm), fun m hm => (by rw [List.drop_eq_nil_of_le (by rw [unhide Hln1]; omega)] at hm; cases hm)⟩, B7⟩
          case round =>
            clear hO7 B7 hr7
            obtain ⟨x, a', c', l, rfl, hx1, hx2, rfl, hll, HO, HM2, HB⟩ := hrel
            by_cases hx0 : 0 ≤ x
            · obtain ⟨j, rfl⟩ : ∃ j : Nat, x = (j : Int) := ⟨x.toNat, by omega⟩
              have hjm : j < ms.length := by rw [unhide Hln1]; omega
              have hj' : (j : Int) < (len1 : Int) := hx2
              have bw4 := bnext (unhide K4).bel (unhide HB)
              obtain ⟨b0, off, rfl, hb0, q0⟩ := RN.at ((unhide Hr1).below bw4) (List.getElem?_eq_getElem hjm)
              obtain ⟨v8, W8, hr8, hO8, hg8⟩ := append_two wr.drew 32 W4.heap.size _ (more :: l) ms[j] ms[j] (owns_kp (N := fun _ => False) (unhide HO) (Kp.of_below (Below.refl wr.heap.size wr).drew) (fun _ _ e => e)) (unhide HB).size (by simp; omega)
              have hdr := List.drop_eq_getElem_cons hjm
              have hB8 : Hid (Below W4.heap.size W4 W8) := hide ((Kp.of_grown (N := fun k => (Value.slice a' (l.length + 1) c').ownBlock = some k) hg8 (fun k hk => hk)).below (ballc (unhide HB).drew _) (fun k hk => ((unhide HO).lt k hk).1))
              have HM8 : Hid ((∀ m ∈ l ++ [ms[j], ms[j]], m ∈ ms) ∧ ∀ m ∈ ms.drop ((j : Int) - 1 + 1).toNat, m ∈ l ++ [ms[j], ms[j]]) := by
                obtain ⟨p1, p2⟩ := unhide HM2
                refine ⟨fun m hm => ?_, fun m hm => ?_⟩
                · rcases List.mem_append.1 hm with h | h
                  · exact p1 m h
                  · simp at h; rw [h]; exact List.getElem_mem hjm
                · rw [show ((j : Int) - 1 + 1).toNat = j by omega, hdr] at hm
                  rcases List.mem_cons.1 hm with h | h
                  · rw [h]; simp
                  · exact List.mem_append_left _ (p2 m (by rw [show ((j : Int) + 1).toNat = j + 1 by omega]; exact h))
              obtain ⟨a8, c8, rfl⟩ := OwN.form hO8
              have e8 : ((more :: l) ++ [ms[j], ms[j]]).length = (l ++ [ms[j], ms[j]]).length + 1 := by simp
              have HO8 : Hid (OwN W8 W4.heap.size (.slice a8 ((l ++ [ms[j], ms[j]]).length + 1) c8) (more :: (l ++ [ms[j], ms[j]]))) := by rw [e8] at hO8; exact hide hO8
              rw [e8] at hr8
              have hr8' : (Builtin.append_ #[32, 32] 32 #[.slice a' (l.length + 1) c', .slice (some ⟨wr.heap.size, 0, none⟩) 2 2]).run Try.prog (wr.alloc (.cells #[.int .i64 ms[j], .int .i64 ms[j]] 3)).drew = .ok (.slice a8 ((l ++ [ms[j], ms[j]]).length + 1) c8) W8 := hr8
              have hl8 : ((l ++ [ms[j], ms[j]]).length : Int) + 2 * ((j : Int) - 1) ≤ 200 := by simp; omega
              generalize hl2 : l ++ [ms[j], ms[j]] = l2 at *
              generalize ms[j] = m at *
              clear hl2 hr8 hO8 hg8 hdr e8 HO HM2 HB bw4
              replace hr8' := hide hr8'
              go_wp2
              go_region_law (refine step_append_eq rfl (.tmp 226) (.tmp 235) 32 rfl _ _ _ (by simp [Act.eval, Act.put]) (by simp [Act.eval, Act.put]) (unhide hr8') ?_)
              all_goals
                go_wp2
                go_roundw
                case measure => show ((j : Int) - 1 + 1).toNat < ((j : Int) + 1).toNat; omega
                case rel => exact ⟨(j : Int) - 1, _, _, l2, by go_num, by omega, by omega, rfl, hl8, HO8, HM8, hB8⟩
            · have hx0' : ¬ 0 ≤ x := hx0
              have hll' : l.length ≤ 300 := by omega
              have Hmem : Hid ((∀ m ∈ l, m ∈ ms) ∧ ∀ m ∈ ms, m ∈ l) := by
                obtain ⟨p1, p2⟩ := unhide HM2
                refine ⟨p1, fun m hm => p2 m ?_⟩
                rw [show (x + 1).toNat = 0 by omega, List.drop_zero]
                exact hm
              have h64 : ∀ m ∈ more :: l, in64 m := fun m hm => by
                rcases List.mem_cons.1 hm with h | h
                · rw [h]; exact unhide hmore
                · exact unhide H64 m ((unhide Hmem).1 m h)
              have H642 := hide h64
              have kb := (unhide K4).below (unhide HB)
              have HF1 := hide (KFrontier_in kb _ (more :: l) (OwN.row (unhide HO)) (by simp; omega) h64 self _ own ((unhide Hr3).below kb.bel) (by have := unhide Hol; omega))
              obtain ⟨f2, hf2⟩ : ∃ f, frR S ((more :: l).filter fun x => !(x == self)) (sy own) = f := ⟨_, rfl⟩
              have hF2 : Fro S (more :: l) self own = vec f2 := by rw [← hf2]; unfold Fro; rw [if_pos (unhide hck)]
              have gf2 : Good f2 := by rw [← hf2]; exact frR_good (unhide HG) _ (sy_good own)
              have hcov : cov fr f2 = true := by
                rw [← unhide Hfr, ← hf2]
                refine fro_more S (fun m hm => ?_) _
                rw [List.mem_filter] at hm ⊢
                exact ⟨List.mem_cons_of_mem _ ((unhide Hmem).2 m hm.1), hm.2⟩
              have hF3 : Fro S l self own = vec fr := by
                rw [← unhide Hfr]
                unfold Fro
                rw [if_pos (unhide hck)]
                congr 1
                refine frR_set S (fun m => ?_) _
                rw [List.mem_filter, List.mem_filter]
                exact ⟨fun h => ⟨(unhide Hmem).1 m h.1, h.2⟩, fun h => ⟨(unhide Hmem).2 m h.1, h.2⟩⟩
              rw [hF2] at HF1
              obtain ⟨g, o, rfl, -, hc1, rt⟩ := RN.tail (OwN.row (unhide HO))
              have HRt := hide rt
              have HF3 := hide hF3
              have Hcov := hide hcov
              have Gf2 := hide gf2
              clear hf2 hF2 gf2 hcov hF3 rt h64 kb HM2
              go_wp2_with fail
              refine (unhide HF1).mono ?_
              rintro r W8 ⟨v8, rfl, ho8, hb8⟩
              have HB8 := hide (bnext (unhide HB) hb8)
              have rV : RI W8 (.slice a4 fl c4) (vec fr) := (unhide HO4).row.below (unhide HB8)
              have HCv := hide (refCovers_in _ _ (vec fr) (vec f2) W8 rV ho8.row (by have := vec_len fr; omega) (by have := vec_len f2; omega))
              rw [sy_vec (unhide Gf), sy_vec (unhide Gf2), unhide Hcov] at HCv
              obtain ⟨a8, c8, rfl⟩ := OwD.form ho8
              clear HF1 ho8 rV
              replace hb8 := hide hb8
              go_wp2_with fail
              refine (unhide HCv).mono ?_
              rintro r W9 ⟨rfl, hb9⟩
              have hb89 := bnext (unhide hb8) hb9
              have HB9 := hide (bnext (unhide HB) hb89)
              have kb := (unhide K4).below (unhide HB9)
              by_cases hc1x : c' = 1
              · have hl0 : l.length = 0 := by omega
                have HF4 := hide (KFrontier_in kb (.slice (some ⟨g, o, none⟩) l.length 0) l (.inl ⟨hl0, _, _, by rw [hl0]⟩) (by omega) (fun m hm => unhide H642 m (List.mem_cons_of_mem _ hm)) self _ own ((unhide Hr3).below kb.bel) (by have := unhide Hol; omega))
                rw [unhide HF3] at HF4
                clear HCv hb9 hb89 kb HRt
                replace hl0 := hide hl0
                have hcl : (l.length : Int) + 1 ≤ (c' : Int) := by omega
                go_wp2_with fail
                refine (unhide HF4).mono ?_
                rintro r W10 ⟨v10, rfl, ho10, hb10⟩
                have HB10 := hide (bnext (unhide HB9) hb10)
                have rV : RI W10 (.slice a4 fl c4) (vec fr) := (unhide HO4).row.below (unhide HB10)
                have HVe := hide (vectors_in (vec fr) (vec fr) _ _ W10 ho10.row rV (by have := vec_len fr; omega) (by have := vec_len fr; omega))
                rw [decide_eq_true rfl] at HVe
                obtain ⟨a10, c10, rfl⟩ := OwD.form ho10
                clear HF4 ho10 hb10 rV
                go_wp2_with fail
                refine (unhide HVe).mono ?_
                rintro r W11 ⟨rfl, nd, hq⟩
                have B11 : Hid (Below w.heap.size w W11) := by rw [hq]; exact hide (bdrew (bnext (unhide K4).bel (unhide HB10)) nd)
                clear hq HVe
                go_wp2_with fail
                refine (unhide tail _ B11).mono ?_
                rintro r W12 ⟨rfl, hb12⟩
                replace hb12 := hide hb12
                go_wp2
                go_ret
                exact ⟨rfl, unhide hb12⟩
              · skip
                have HF4 := hide (KFrontier_in kb _ l ((unhide HRt).below hb89) (by omega) (fun m hm => unhide H642 m (List.mem_cons_of_mem _ hm)) self _ own ((unhide Hr3).below kb.bel) (by have := unhide Hol; omega))
                rw [unhide HF3] at HF4
                clear HCv hb9 hb89 kb HRt
                have hcl : (l.length : Int) + 1 ≤ (c' : Int) := by omega
                go_wp2_with fail
                refine (unhide HF4).mono ?_
                rintro r W10 ⟨v10, rfl, ho10, hb10⟩
                have HB10 := hide (bnext (unhide HB9) hb10)
                have rV : RI W10 (.slice a4 fl c4) (vec fr) := (unhide HO4).row.below (unhide HB10)
                have HVe := hide (vectors_in (vec fr) (vec fr) _ _ W10 ho10.row rV (by have := vec_len fr; omega) (by have := vec_len fr; omega))
                rw [decide_eq_true rfl] at HVe
                obtain ⟨a10, c10, rfl⟩ := OwD.form ho10
                clear HF4 ho10 hb10 rV
                go_wp2_with fail
                refine (unhide HVe).mono ?_
                rintro r W11 ⟨rfl, nd, hq⟩
                have B11 : Hid (Below w.heap.size w W11) := by rw [hq]; exact hide (bdrew (bnext (unhide K4).bel (unhide HB10)) nd)
                clear hq HVe
                go_wp2_with fail
                refine (unhide tail _ B11).mono ?_
                rintro r W12 ⟨rfl, hb12⟩
                replace hb12 := hide hb12
                go_wp2
                go_ret
                exact ⟨rfl, unhide hb12⟩

theorem own : ownKnob Try.prog.godebug = none := by kernel_rfl
theorem laidOut2 : laidOutB Try.prog = true := by kernel_rfl

set_option maxRecDepth 100000 in
theorem lifted (os : Os) (started : os.Started) (H : Type) (enc : TypeId × Value → H) :
    ReturnsInHanded {} Try.checked os 6 .any (Rows.frontMeansSpec.pre6 enc Try.prog Try.f6 Rows.frontMeansRow.domain false) (Rows.frontMeansSpec.post enc Try.prog Try.f6 false true false false) := by
  refine returnsInHanded_of_change (C := Try.checked) own started (by kernel_rfl) Try.func6
    (ChangeSpec.witness6 (enc := enc) (C := Try.checked) false ⟨#[], #[.slice none 0 0, .slice none 0 0, .int .i64 0, .slice none 0 0, .int .i64 0], []⟩ 8 (by kernel_rfl) (by kernel_rfl) (by kernel_rfl) (by kernel_rfl)) ?_
  intro W base args ds gs before hval0 hW hcnd _
  have hval : ∀ (j : Nat) t v, Try.f6.params[j]? = some t → args[j]? = some v → Value.okWide Try.prog W .any base t v := hval0
  have hW' := hW
  obtain ⟨p, q, hA0, hV, rfl, hfz, hnd⟩ := hW
  have hA : DataW.TrodAll enc Try.prog W 0 (fun _ => true) true Try.f6.params.toList args.toList ds p := hA0
  rw [Try.params6] at hA hval
  obtain ⟨v0, vs0, d0, ds0, p0, q0, hargs, rfl, rfl, h0, r0⟩ := trodAll_cons hA
  obtain ⟨v1, vs1, d1, ds1, p1, q1, rfl, rfl, rfl, h1, r1⟩ := trodAll_cons r0
  obtain ⟨v2, vs2, d2, ds2, p2, q2, rfl, rfl, rfl, h2, r2⟩ := trodAll_cons r1
  obtain ⟨v3, vs3, d3, ds3, p3, q3, rfl, rfl, rfl, h3, r3⟩ := trodAll_cons r2
  obtain ⟨v4, vs4, d4, ds4, p4, q4, rfl, rfl, rfl, h4, r4⟩ := trodAll_cons r3
  obtain ⟨rfl, rfl, rfl⟩ := trodAll_nil r4
  obtain rfl : args = #[v0, v1, v2, v3, v4] := by cases args; simp_all
  obtain ⟨rfl, rfl⟩ := trodVars_none hV
  obtain ⟨a0, len0, cap0, rfl⟩ := okWide_slice Try.underlying22 (hval 0 22 v0 rfl rfl)
  have k0 := h0
  have lt0 : ∀ x ∈ p0, x.block < W.heap.size := by obtain ⟨m, hm⟩ := k0; exact DataW.trod_lt m _ _ _ hm
  obtain ⟨z0, w0⟩ : ∃ l : List Stp, RS W (.slice a0 len0 cap0) l ∧ l.length = len0 ∧ len0 ≤ maxLen ∧ ∀ e ∈ l, StW W e := by
    obtain ⟨fuel, hf⟩ := h0
    simp only [Value.cells] at hf
    exact open_steps hf
  obtain ⟨a1, len1, cap1, rfl⟩ := okWide_slice Try.underlying32 (hval 1 32 v1 rfl rfl)
  have k1 := h1
  have lt1 : ∀ x ∈ p1, x.block < W.heap.size := by obtain ⟨m, hm⟩ := k1; exact DataW.trod_lt m _ _ _ hm
  obtain ⟨z1, w1⟩ : ∃ l : List Int, RN W (.slice a1 len1 cap1) l ∧ l.length = len1 ∧ len1 ≤ maxLen ∧ ∀ e ∈ l, in64 e := by
    obtain ⟨fuel, hf⟩ := h1
    simp only [Value.cells] at hf
    exact open_nums hf
  obtain ⟨a2, rfl, rfl, rfl, w2⟩ := open_int Try.underlying3 (hval 2 3 v2 rfl rfl) h2
  obtain ⟨a3, len3, cap3, rfl⟩ := okWide_slice Try.underlying31 (hval 3 31 v3 rfl rfl)
  have k3 := h3
  have lt3 : ∀ x ∈ p3, x.block < W.heap.size := by obtain ⟨m, hm⟩ := k3; exact DataW.trod_lt m _ _ _ hm
  obtain ⟨z3, w3⟩ : ∃ l : List (Int × Int), RI W (.slice a3 len3 cap3) l ∧ l.length = len3 ∧ len3 ≤ maxLen ∧ ∀ e ∈ l, idIn e := by
    obtain ⟨fuel, hf⟩ := h3
    simp only [Value.cells] at hf
    exact open_dots hf
  obtain ⟨a4, rfl, rfl, rfl, w4⟩ := open_int Try.underlying3 (hval 4 3 v4 rfl rfl) h4
  clear hA0 hval0
  refine (walk a0 len0 cap0 z0 a1 len1 cap1 z1 a2 a3 len3 cap3 z3 a4 W w0 w1 w2 w3 w4).mono fun e W' ⟨he, bel⟩ => ?_
  subst he
  exact ⟨_, rfl, _, _, _, [], _, [], hW', trodAll_mk1 (shut_bool Try.underlying4 _), (trodAll_cons_mk (Below.trod laidOut2 (by kernel_rfl) (of_decide_eq_true (by kernel_rfl)) k0 bel lt0) (trodAll_cons_mk (Below.trod laidOut2 (by kernel_rfl) (of_decide_eq_true (by kernel_rfl)) k1 bel lt1) (trodAll_cons_mk (shut_int Try.underlying3 w2) (trodAll_cons_mk (Below.trod laidOut2 (by kernel_rfl) (of_decide_eq_true (by kernel_rfl)) k3 bel lt3) (trodAll_cons_mk (shut_int Try.underlying3 w4) trodAll_mk0))))), rfl, bel.frame _, fun h => by cases h⟩

theorem over : Rows.frontMeansRow.holds Try.pinned (OpenSpec.ofChange Rows.frontMeansSpec) :=
  OpenClaim.holds_of_wide 6 Try.f6 rfl rfl rfl rfl rfl rfl rfl ⟨rfl, rfl, rfl, rfl, rfl⟩ rfl rfl rfl rfl rfl (by kernel_rfl) Try.func6 (by kernel_rfl)
    (of_decide_eq_true (by kernel_rfl)) (by unfold Func.isWrapper; first | (rw [if_pos (by decide +kernel)]; kernel_rfl) | (rw [if_neg (by decide +kernel)]; exact ⟨rfl, rfl⟩))
    (fun os started H enc _ => lifted os started H enc)

end LFrontMeans

theorem frontMeans_holds : Rows.FrontMeansSaid := LFrontMeans.over

end Go.Proofs.Ytjiphechhfifgaa
