/-
  Chapter 13's law CausalPlays returns true for every hold, every vector and every script, and leaves its arguments as they were; no condition.
-/
import Derived.Test.YtkkolefionbbcaaGreatRows
import Derived.WalkKit
import Derived.ProofKit
import Derived.OpenShut
import Derived.ShutString
import Derived.ChangeOld
import Derived.Below
import Derived.Test.YtkkolefionbbcaaGreatZCD6
import Derived.Deep.CutRange
set_option linter.unusedVariables false
set_option linter.unusedSimpArgs false
namespace Go.Proofs.YtkkolefionbbcaaGreat
namespace LCausalPlays
open Go.ChangeShapes Go.WideShapes Go.ChangeAt Go.RowKit Go.Lib
open Go.ChangeMaps (open_string shut_string)

set_option maxRecDepth 100000 in
set_option maxHeartbeats 16000000 in
theorem walk (hold : Int) (av : Option Addr) (lenv capv : Nat) (vl : List (Int × Int)) (a0 : Option Addr) (len0 cap0 : Nat) (ss : List Stp) (w : World) (h0 : (Lit.int .i64 hold).wf = true) (w1 : RI w (.slice av lenv capv) vl ∧ vl.length = lenv ∧ lenv ≤ maxLen ∧ ∀ e ∈ vl, idIn e) (w2 : RC w (.slice a0 len0 cap0) ss.length (flat encS ss) ∧ ss.length = len0 ∧ len0 ≤ maxLen ∧ ∀ e ∈ ss, StW w e) :
    Calls Tryz.prog 3 #[.int .i64 hold, .slice av lenv capv, .slice a0 len0 cap0] w fun e W => e = .returned (.bool true) ∧ Below w.heap.size w W := by
  obtain ⟨hrv, hlv, hmv, _⟩ := w1
  obtain ⟨hr, hln, hmx, hst⟩ := w2
  unfold maxLen at hmv hmx
  subst hlv
  have HK := hide (fun W => known_in W)
  clear h0
  by_cases hbv : 3000 < vl.length
  · have hbv' : (3000 : Int) < (vl.length : Int) := by omega
    clear hrv hr hln hst
    go_enter Tryz.func3, Tryz.ntmps3
    go_wp2_with fail
    refine (unhide HK _).mono ?_
    rintro r W2 ⟨rfl, hb2⟩
    go_wp2
    go_ret
    exact ⟨rfl, hb2⟩
  have hbv' : ¬ (3000 : Int) < (vl.length : Int) := by omega
  have HMu := hide (much_in a0 len0 cap0 ss w hr hln hst hmx)
  obtain ⟨M, hM⟩ : ∃ M, muchB ss = M := ⟨_, rfl⟩
  rw [hM] at HMu
  cases M with
  | true =>
    clear hrv hr hln hst hM
    go_enter Tryz.func3, Tryz.ntmps3
    go_wp2_with fail
    refine (unhide HMu).mono ?_
    rintro e W1 ⟨rfl, b1⟩
    replace b1 := hide b1
    go_wp2_with fail
    refine (unhide HK _).mono ?_
    rintro r W2 ⟨rfl, hb2⟩
    go_wp2
    go_ret
    exact ⟨rfl, bnext (unhide b1) hb2⟩
  | false =>
    have hsml := much_small hM
    have hl3 : len0 ≤ 300 := by rw [← hln]; exact hsml.1
    have Hsm := hide hsml.2
    have Hln := hide hln
    have Hr := hide hr
    have Hst := hide hst
    have hvl : vl.length ≤ 3000 := by omega
    have Hrv := hide hrv
    clear hM hsml hln hr hst hrv
    go_enter Tryz.func3, Tryz.ntmps3
    go_wp2_with fail
    refine (unhide HMu).mono ?_
    rintro e W1 ⟨rfl, b1⟩
    clear HMu
    obtain ⟨v1, Y1, hap1, ho1, hg1⟩ := app_nil 23 28 2 16 _ Tryz.underlying23 infoD rfl (by decide) W1 W1.heap.size 23 _ vl.length (flat encI vl) ((unhide Hrv).below b1) (flat_len encI_len vl) encI_oneT (Nat.le_refl _) (by unfold maxLen; omega) (by omega)
    have bY1 : Below W1.heap.size W1 Y1 := (Below.refl _ W1).grown hg1 (Nat.le_refl _) (fun k hk => by cases hk)
    obtain ⟨v2, Y2, hap2, ho2, hg2, -⟩ := append_dot Y1 23 W1.heap.size v1 vl 901 902 ho1 bY1.size (by omega)
    have bY2 : Below W1.heap.size W1 Y2 := (ballc bY1 _).grown hg2 (ballc bY1 _).size (fun k hk => (ho1.lt k hk).1)
    have l2 : (vl ++ [((901 : Int), (902 : Int))]).length = vl.length + 1 := by simp
    rw [l2] at ho2
    obtain ⟨a2, c2, rfl⟩ := owns_form ho2
    obtain ⟨gd, rfl, hc2⟩ := own_cap ho2
    have hsl := fun W n => sl_toVt W (some ⟨gd, 0, none⟩) n c2 vl.length (by omega)
    have hgd := ho2.lt gd rfl
    have ri2 : RI Y2 (.slice (some ⟨gd, 0, none⟩) vl.length c2) vl := RC.take1 (RC.of_owns ho2) (fun j x hx => by rw [flat_append]; exact (List.getElem?_append_left (List.getElem?_eq_some_iff.1 hx).1).trans hx)
    have HN := hide (newP_in hold _ vl Y2 ri2 (by omega))
    obtain ⟨ec, hec⟩ : ∃ ec, newC hold vl = ec := ⟨_, rfl⟩
    rw [hec] at HN
    have Hec := hide hec
    have HY := hide (And.intro (bnext b1 bY2) (And.intro ho2 (And.intro hgd b1.size)))
    have Hri := hide ri2
    replace hap1 := hide hap1
    replace hap2 := hide hap2
    clear ho1 hg1 bY1 ho2 hg2 bY2 l2 hc2 hgd ri2 b1 hec
    go_wp2_with (at_builtin; first | (have H1 := hap1; clear hap1; refine wpList_append_eq rfl _ _ 23 rfl _ _ _ _ rfl rfl (unhide H1) ?_; clear H1) | (have H2 := hap2; clear hap2; refine wpList_append_eq rfl _ _ 23 rfl _ _ _ _ rfl rfl (unhide H2) ?_; clear H2))
    refine (unhide HN).mono ?_
    rintro e Y3 ⟨qo, rfl, hq, b3⟩
    have hW3 := bnext (unhide HY).1 b3
    have HN2 := hide (newD_in hold _ vl Y3 ((unhide Hrv).below hW3) (by omega))
    rw [unhide Hec] at HN2
    have HQ := hide hq
    have HB3 := hide b3
    clear HN hq b3 hW3
    go_wp2_with fail
    refine (unhide HN2).mono ?_
    rintro e Y4 ⟨ro, rfl, hr4, b4⟩
    have B24 := bnext (unhide HB3) b4
    have HSm := hide (fun (X : World) (hX : Below Y4.heap.size Y4 X) => Same_in vl vl (.slice (some ⟨gd, 0, none⟩) vl.length c2) (.slice av vl.length capv) X (((unhide Hri).below B24).below hX) ((((unhide Hrv).below (unhide HY).1).below B24).below hX) (by omega) (by omega))
    simp only [decide_true] at HSm
    have o4 := owns_kp (unhide HY).2.1 (Kp.of_below (N := fun _ => False) B24) (fun _ _ e => e)
    have HM : Hid (∀ X, Below Y4.heap.size Y4 X → X.cell? ⟨gd, vl.length * 2 + 1, none⟩ = some (.int .i64 902)) := hide (fun X hX => by
      have hx : (vl ++ [((901 : Int), (902 : Int))])[vl.length]? = some (901, 902) := by simp
      have h1 := o4.cellAt (vl.length * 2 + 1) (by omega)
      rw [flat_get encI_len _ vl.length 1 _ hx (by omega)] at h1
      exact cell_below h1 hX)
    have HXD := hide (OwX.of o4)
    have HQ2 : Hid ((ec = 0 ∧ ∃ b r, qo = some ⟨b, 0, none⟩ ∧ ro = some ⟨r, 0, none⟩ ∧ (0 ≤ hold ∧ hold ≤ 256) ∧ ∃ S, DQ w S b r hold 0 Y4 ∧ ¬ S gd) ∨ (ec ≠ 0 ∧ qo = none)) := hide (by
      rcases unhide HQ with ⟨h1, h2, h3, b, rfl, hp⟩ | ⟨h1, rfl⟩
      · rcases hr4 with ⟨_, r, rfl, hd⟩ | ⟨h4, _⟩
        · refine .inl ⟨h1, b, r, rfl, rfl, h2, _, DQ.new h2.1 h3 hp (Below.refl _ _) (hd w) b4 (unhide HY).1 (unhide HB3), fun e => ?_⟩
          have := (unhide HY).2.2.1
          have := (unhide HB3).size
          omega
        · exact absurd h1 h4
      · exact .inr ⟨h1, rfl⟩)
    have HB4 := hide (bnext (unhide HY).1 B24)
    have hgd4 : Hid (w.heap.size ≤ gd) := hide (by have := (unhide HY).2.2; omega)
    clear HN2 hr4 b4 B24 o4 HQ HB3 HY Hri Hec Hrv
    go_upto_region 8 with fail
    go_cut [71] from 44 to 71 (fun v wx => v = .bool false ∧ Hid (Below Y4.heap.size Y4 wx))
    case first =>
      have hvl1 : (vl.length : Int) < (vl.length : Int) + 1 := by omega
      have hee : (ec != ec) = false := by simp
      rcases unhide HQ2 with ⟨rfl, b, r, rfl, rfl, _⟩ | ⟨h1, rfl⟩
      · go_wp2_with fail
        refine (unhide HSm _ (Below.refl _ _)).mono ?_
        rintro e X1 ⟨rfl, nn, rfl⟩
        have c1 := unhide HM _ (bdrew (Below.refl _ Y4) nn)
        go_wp2
        go_meet
        case rel => exact ⟨by first | rfl | (simp; omega), hide (bdrew (Below.refl _ _) nn)⟩
      · have h1' : (ec != 0) = true := by simpa using h1
        clear h1
        go_wp2_with fail
        refine (unhide HSm _ (Below.refl _ _)).mono ?_
        rintro e X1 ⟨rfl, nn, rfl⟩
        have c1 := unhide HM _ (bdrew (Below.refl _ Y4) nn)
        go_wp2
        go_meet
        case rel => exact ⟨by first | rfl | (simp; omega), hide (bdrew (Below.refl _ _) nn)⟩
    obtain ⟨rfl, HBc⟩ := hcut
    obtain ⟨Y5, rfl⟩ : ∃ Y, Y = wc := ⟨_, rfl⟩
    have HXD5 := hide ((unhide HXD).ss (SS.below (unhide HBc)))
    have G1 : Hid (Kp (fun i => i = gd) Y5 Y5 ∧ SS Y5 Y5) := hide ⟨Kp.refl _ _, SS.refl _⟩
    clear HSm HM HXD hsl
    go_wp2
    go_loopw [12] (fun iv wq => ∃ i : Nat, iv = .int .i64 (i : Nat) ∧ i ≤ vl.length ∧ Hid (Kp (fun i => i = gd) Y5 wq ∧ SS Y5 wq)) (fun iv _ => vl.length - (RowKit.intOf iv).toNat)
    case atStart => exact ⟨0, rfl, by omega, G1⟩
    case round =>
      clear G1
      obtain ⟨i, rfl, hi, G1⟩ := hrel
      by_cases hlt : i < vl.length
      · have hlt' : (i : Int) < (vl.length : Int) := by omega
        have hlt2 : (i : Int) < (vl.length : Int) + 1 := by omega
        obtain ⟨g, hge, l0, fz, cc, _⟩ := ((unhide HXD5).ss (unhide G1).2).at (by omega)
        simp only [Option.some.injEq, Addr.mk.injEq, and_true] at hge
        subst hge
        obtain ⟨y0, d0⟩ := cc (i * 2) (by omega)
        obtain ⟨y1, d1⟩ := cc (i * 2 + 1) (by omega)
        have f0 := fz (i * 2)
        have f1 := fz (i * 2 + 1)
        have G2 : Hid (Kp (fun i => i = gd) Y5 ((wr.setCell ⟨gd, i * 2, none⟩ (.int .i64 908)).setCell ⟨gd, i * 2 + 1, none⟩ (.int .i64 0)) ∧ SS Y5 ((wr.setCell ⟨gd, i * 2, none⟩ (.int .i64 908)).setCell ⟨gd, i * 2 + 1, none⟩ (.int .i64 0))) :=
          hide ⟨((unhide G1).1.trans (Kp.set (N := fun k => k = gd) _ _ _ rfl) (fun i e => .inl e)).trans (Kp.set (N := fun k => k = gd) _ _ _ rfl) (fun i e => .inl e), ((unhide G1).2.trans (SS.set _ _ _ _)).trans (SS.set _ _ _ _)⟩
        clear G1 fz cc
        go_wp2
        go_roundw
        case rel => exact ⟨i + 1, by go_num, by omega, G2⟩
        case measure => simp [RowKit.intOf]; omega
      · have hlt' : ¬ (i : Int) < (vl.length : Int) := by omega
        have HBW : Hid (Below w.heap.size w wr) := hide ((unhide G1).1.below (bnext (unhide HB4) (unhide HBc)) (fun i e => by rw [e]; exact unhide hgd4))
        rcases unhide HQ2 with ⟨rfl, b, r, rfl, rfl, hd, S, hdq, hS⟩ | ⟨_, rfl⟩
        · have HD : Hid (DP w b r hold 0 wr) := hide ⟨S, (hdq.below (unhide HBc)).kp (unhide G1).1 (fun i e => ⟨by rw [e]; exact hS, by rw [e]; exact unhide hgd4⟩)⟩
          clear hdq hS HQ2 G1 HBc HXD5 HB4
          go_wp2
          clear hlt' hlt hi
          go_loopw [13] (fun iv wq => ∃ i : Nat, iv = .int .i64 (i : Nat) ∧ i ≤ len0 ∧ Hid (DP w b r hold i wq)) (fun iv _ => len0 - (RowKit.intOf iv).toNat)
          case atStart => exact ⟨0, rfl, by omega, HD⟩
          case round =>
            clear HD HBW
            obtain ⟨j, rfl, hj, HD⟩ := hrel
            have HBW := hide (unhide HD).bel
            by_cases hlt : j < len0
            · have hlt' : (j : Int) < (len0 : Int) := by omega
              obtain ⟨s, hx⟩ : ∃ s, ss[j]? = some s := ⟨_, List.getElem?_eq_getElem (by rw [unhide Hln]; omega)⟩
              obtain ⟨g, off, rfl, hg, hcw⟩ := rs_at (unhide Hr) hx
              have hc := fun q v h => cell_below (hcw q v h) (unhide HBW)
              have hst := unhide Hst s (List.mem_of_getElem? hx)
              have hsm := unhide Hsm s (List.mem_of_getElem? hx)
              obtain ⟨ad, cd, hvd⟩ := hst.d
              obtain ⟨ag, cg, hvg⟩ := hst.g
              have q0 := hc 0 _ rfl
              have q1 := hc 1 _ rfl
              have q2 := hc 2 _ rfl
              have q3 := hc 3 _ rfl
              have q4 := hc 4 _ rfl
              have q5 := hc 5 _ rfl
              have q6 := hc 6 _ rfl
              have q7 := hc 7 _ rfl
              have q8 := hc 8 _ rfl
              have q9 := hc 9 _ rfl
              have q10 := hc 10 _ rfl
              have q11 := hc 11 _ rfl
              have q12 := hc 12 _ rfl
              rw [hvd] at q2
              rw [hvg] at q9
              simp only [Nat.add_zero] at q0
              have HDo := hide ((unhide HD).does (by omega) hd s ad ag cd cg hst hvd hvg hsm.1 hsm.2.1 hsm.2.2)
              clear hx hcw hc hst hsm hvd hvg
              go_wp2_with fail
              refine (unhide HDo).mono ?_
              rintro e X ⟨rfl, hd2⟩
              have HD2 := hide hd2
              clear HDo hd2 HD HBW q0 q1 q2 q3 q4 q5 q6 q7 q8 q9 q10 q11 q12
              go_wp2
              go_roundw
              case rel => exact ⟨j + 1, by go_num, by omega, HD2⟩
              case measure => show len0 - ((j : Int) + 1).toNat < len0 - ((j : Nat) : Int).toNat; omega
            · have hlt' : ¬ (j : Int) < (len0 : Int) := by omega
              go_wp2_with fail
              refine (unhide HK _).mono ?_
              rintro r W2 ⟨rfl, hb2⟩
              go_wp2
              go_ret
              exact ⟨rfl, bnext (unhide HBW) hb2⟩
        · go_wp2
          clear hlt' hlt hi
          go_loopw [13] (fun iv wq => iv = .int .i64 0 ∧ Hid (Below w.heap.size w wq)) (fun iv _ => 0)
          case atStart => exact ⟨rfl, HBW⟩
          case round =>
            clear HBW
            obtain ⟨rfl, HBW⟩ := hrel
            by_cases hlt : 0 < len0
            · have hlt' : (0 : Int) < (len0 : Int) := by omega
              go_wp2_with fail
              refine (unhide HK _).mono ?_
              rintro r W2 ⟨rfl, hb2⟩
              go_wp2
              go_ret
              exact ⟨rfl, bnext (unhide HBW) hb2⟩
            · have hlt' : ¬ (0 : Int) < (len0 : Int) := by omega
              go_wp2_with fail
              refine (unhide HK _).mono ?_
              rintro r W2 ⟨rfl, hb2⟩
              go_wp2
              go_ret
              exact ⟨rfl, bnext (unhide HBW) hb2⟩

theorem own : ownKnob Tryz.prog.godebug = none := by kernel_rfl
theorem laidOut2 : laidOutB Tryz.prog = true := by kernel_rfl

set_option maxRecDepth 100000 in
theorem lifted (os : Os) (started : os.Started) (H : Type) (enc : TypeId × Value → H) :
    ReturnsInHanded {} Tryz.checked os 3 .any (Rows.causalPlaysSpec.pre6 enc Tryz.prog Tryz.f3 Rows.causalPlaysRow.domain false) (Rows.causalPlaysSpec.post enc Tryz.prog Tryz.f3 false true false false) := by
  refine returnsInHanded_of_change (C := Tryz.checked) own started (by kernel_rfl) Tryz.func3
    (ChangeSpec.witness6 (enc := enc) (C := Tryz.checked) false ⟨#[], #[.int .i64 0, .slice none 0 0, .slice none 0 0], []⟩ 8 (by kernel_rfl) (by kernel_rfl) (by kernel_rfl) (by kernel_rfl)) ?_
  intro W base args ds gs before hval0 hW hcnd _
  have hval : ∀ (j : Nat) t v, Tryz.f3.params[j]? = some t → args[j]? = some v → Value.okWide Tryz.prog W .any base t v := hval0
  have hW' := hW
  obtain ⟨p, q, hA0, hV, rfl, hfz, hnd⟩ := hW
  have hA : DataW.TrodAll enc Tryz.prog W 0 (fun _ => true) true Tryz.f3.params.toList args.toList ds p := hA0
  rw [Tryz.params3] at hA hval
  obtain ⟨v0, vs0, d0, ds0, p0, q0, hargs, rfl, rfl, h0, r0⟩ := trodAll_cons hA
  obtain ⟨v1, vs1, d1, ds1, p1, q1, rfl, rfl, rfl, h1, r1⟩ := trodAll_cons r0
  obtain ⟨v2, vs2, d2, ds2, p2, q2, rfl, rfl, rfl, h2, r2⟩ := trodAll_cons r1
  obtain ⟨rfl, rfl, rfl⟩ := trodAll_nil r2
  obtain rfl : args = #[v0, v1, v2] := by cases args; simp_all
  obtain ⟨rfl, rfl⟩ := trodVars_none hV
  obtain ⟨a0, rfl, rfl, rfl, w0⟩ := open_int Tryz.underlying3 (hval 0 3 v0 rfl rfl) h0
  obtain ⟨a1, len1, cap1, rfl⟩ := okWide_slice Tryz.underlying23 (hval 1 23 v1 rfl rfl)
  have k1 := h1
  have lt1 : ∀ x ∈ p1, x.block < W.heap.size := by obtain ⟨m, hm⟩ := k1; exact DataW.trod_lt m _ _ _ hm
  obtain ⟨z1, w1⟩ : ∃ l : List (Int × Int), RI W (.slice a1 len1 cap1) l ∧ l.length = len1 ∧ len1 ≤ maxLen ∧ ∀ e ∈ l, idIn e := by
    obtain ⟨fuel, hf⟩ := h1
    simp only [Value.cells] at hf
    exact open_dots hf
  obtain ⟨a2, len2, cap2, rfl⟩ := okWide_slice Tryz.underlying24 (hval 2 24 v2 rfl rfl)
  have k2 := h2
  have lt2 : ∀ x ∈ p2, x.block < W.heap.size := by obtain ⟨m, hm⟩ := k2; exact DataW.trod_lt m _ _ _ hm
  obtain ⟨z2, w2⟩ : ∃ l : List Stp, RC W (.slice a2 len2 cap2) l.length (flat encS l) ∧ l.length = len2 ∧ len2 ≤ maxLen ∧ ∀ e ∈ l, StW W e := by
    obtain ⟨fuel, hf⟩ := h2
    simp only [Value.cells] at hf
    exact open_steps hf
  clear hA0 hval0
  refine (walk a0 a1 len1 cap1 z1 a2 len2 cap2 z2 W w0 w1 w2).mono fun e W' ⟨he, bel⟩ => ?_
  subst he
  exact ⟨_, rfl, _, _, _, [], _, [], hW', trodAll_mk1 (shut_bool Tryz.underlying4 _), (trodAll_cons_mk (shut_int Tryz.underlying3 w0) (trodAll_cons_mk (Below.trod laidOut2 (by kernel_rfl) (of_decide_eq_true (by kernel_rfl)) k1 bel lt1) (trodAll_cons_mk (Below.trod laidOut2 (by kernel_rfl) (of_decide_eq_true (by kernel_rfl)) k2 bel lt2) trodAll_mk0))), rfl, bel.frame _, fun h => by cases h⟩

theorem over : Rows.causalPlaysRow.holds Tryz.pinned (OpenSpec.ofChange Rows.causalPlaysSpec) :=
  OpenClaim.holds_of_wide 3 Tryz.f3 rfl rfl rfl rfl rfl rfl rfl ⟨rfl, rfl, rfl, rfl, rfl⟩ rfl rfl rfl rfl rfl (by kernel_rfl) Tryz.func3 (by kernel_rfl)
    (of_decide_eq_true (by kernel_rfl)) (by unfold Func.isWrapper; first | (rw [if_pos (by decide +kernel)]; kernel_rfl) | (rw [if_neg (by decide +kernel)]; exact ⟨rfl, rfl⟩))
    (fun os started H enc _ => lifted os started H enc)

end LCausalPlays

theorem causalPlays_holds : Rows.CausalPlaysSaid := LCausalPlays.over

end Go.Proofs.YtkkolefionbbcaaGreat
