/-
  Chapter 13's law CausalNothing returns true for every script, and leaves it as it was; no condition.
-/
import Derived.Test.YtkkolefionbbcaaGreatRows
import Derived.WalkKit
import Derived.ProofKit
import Derived.OpenShut
import Derived.ShutString
import Derived.ChangeOld
import Derived.Below
import Derived.Test.YtkkolefionbbcaaGreatZCD6
import Derived.Deep.CutRange
set_option linter.unusedVariables false
set_option linter.unusedSimpArgs false
namespace Go.Proofs.YtkkolefionbbcaaGreat
namespace LCausalNothing
open Go.ChangeShapes Go.WideShapes Go.ChangeAt Go.RowKit Go.Lib
open Go.ChangeMaps (open_string shut_string)

set_option maxRecDepth 100000 in
set_option maxHeartbeats 16000000 in
theorem walk (a0 : Option Addr) (len0 cap0 : Nat) (ss : List Stp) (w : World) (w2 : RC w (.slice a0 len0 cap0) ss.length (flat encS ss) ∧ ss.length = len0 ∧ len0 ≤ maxLen ∧ ∀ e ∈ ss, StW w e) :
    Calls Tryz.prog 5 #[.slice a0 len0 cap0] w fun e W => e = .returned (.bool true) ∧ Below w.heap.size w W := by
  obtain ⟨hr, hln, hmx, hst⟩ := w2
  unfold maxLen at hmx
  have HK := hide (fun W => known_in W)
  have HMu := hide (much_in a0 len0 cap0 ss w hr hln hst hmx)
  obtain ⟨M, hM⟩ : ∃ M, muchB ss = M := ⟨_, rfl⟩
  rw [hM] at HMu
  cases M with
  | true =>
    clear hr hln hst hM
    go_enter Tryz.func5, Tryz.ntmps5
    go_wp2_with fail
    refine (unhide HMu).mono ?_
    rintro e W1 ⟨rfl, b1⟩
    replace b1 := hide b1
    go_wp2_with fail
    refine (unhide HK _).mono ?_
    rintro r W2 ⟨rfl, hb2⟩
    go_wp2
    go_ret
    exact ⟨rfl, bnext (unhide b1) hb2⟩
  | false =>
    have hsml := much_small hM
    have hl3 : len0 ≤ 300 := by rw [← hln]; exact hsml.1
    have Hsm := hide hsml.2
    have Hln := hide hln
    have Hr := hide hr
    have Hst := hide hst
    clear hM hsml hln hr hst
    go_enter Tryz.func5, Tryz.ntmps5
    go_wp2_with fail
    refine (unhide HMu).mono ?_
    rintro e W1 ⟨rfl, b1⟩
    clear HMu
    obtain ⟨Y1, hY1⟩ : ∃ Y, W1.alloc (.cells #[.int .i64 0, .slice none 0 0, .slice none 0 0, .slice none 0 0] 49) = Y := ⟨_, rfl⟩
    have bY1 : Below W1.heap.size W1 Y1 := by rw [← hY1]; exact ballc (Below.refl _ _) _
    have B1 : Bx Y1 W1.heap.size 49 #[.int .i64 0, .slice none 0 0, .slice none 0 0, .slice none 0 0] := by rw [← hY1]; exact Bx.new _ _ _
    obtain ⟨Y2, hY2⟩ : ∃ Y, Y1.alloc (.cells #[.int .i64 0, .slice none 0 0, .slice none 0 0, .slice none 0 0] 51) = Y := ⟨_, rfl⟩
    have bY2 : Below Y1.heap.size Y1 Y2 := by rw [← hY2]; exact ballc (Below.refl _ _) _
    have B2 : Bx Y2 Y1.heap.size 51 #[.int .i64 0, .slice none 0 0, .slice none 0 0, .slice none 0 0] := by rw [← hY2]; exact Bx.new _ _ _
    have q1 : QP (fun i => W1.heap.size ≤ i) Y1 W1.heap.size 0 [] [] [] := ⟨_, _, _, [], [], ⟨B1, World.ownsRow_nil _ _ _ _, World.ownsRow_nil _ _ _ _, RdA.nil _, fun e he => (by cases he), fun e he => (by cases he), Nat.le_refl _, fun k hk => (by cases hk), fun k hk => (by cases hk), fun k hk => (by cases hk), fun k hk => (by cases hk), by decide, Apt.nil _⟩, rfl, rfl⟩
    have q2 : QQ w (fun i => Y1.heap.size ≤ i) Y2 Y1.heap.size 0 [] [] [] := ⟨_, _, _, [], [], ⟨B2, World.ownsRow_nil _ _ _ _, World.ownsRow_nil _ _ _ _, RdA.nil _, fun e he => (by cases he), fun e he => (by cases he), Nat.le_refl _, fun k hk => (by cases hk), fun k hk => (by cases hk), fun k hk => (by cases hk), fun k hk => (by cases hk), by decide⟩, rfl, rfl⟩
    have HD : Hid (DP w W1.heap.size Y1.heap.size 0 0 Y2) := hide ⟨_, DQ.new (by decide) rfl q1 (Below.refl _ _) q2 bY2 b1 bY1⟩
    clear q1 q2 B1 B2 bY1 bY2
    have HyS : Hid (Y1.heap.size = W1.heap.size + 1) := hide (by rw [← hY1]; simp)
    go_upto_region 6 with fail
    clear hY1 hY2 HyS b1
    generalize W1.heap.size = b at *
    generalize Y1.heap.size = r at *
    go_wp2
    go_loopw [6] (fun iv wq => ∃ i : Nat, iv = .int .i64 (i : Nat) ∧ i ≤ len0 ∧ Hid (DP w b r 0 i wq)) (fun iv _ => len0 - (RowKit.intOf iv).toNat)
    case atStart => exact ⟨0, rfl, by omega, HD⟩
    case round =>
      clear HD
      obtain ⟨i, rfl, hi, HD⟩ := hrel
      have HBW := hide (unhide HD).bel
      by_cases hlt : i < len0
      · have hlt' : (i : Int) < (len0 : Int) := by omega
        obtain ⟨s, hx⟩ : ∃ s, ss[i]? = some s := ⟨_, List.getElem?_eq_getElem (by rw [unhide Hln]; omega)⟩
        obtain ⟨g, off, rfl, hg, hcw⟩ := rs_at (unhide Hr) hx
        have hc := fun q v h => cell_below (hcw q v h) (unhide HBW)
        have hst := unhide Hst s (List.mem_of_getElem? hx)
        have hsm := unhide Hsm s (List.mem_of_getElem? hx)
        obtain ⟨ad, cd, hvd⟩ := hst.d
        obtain ⟨ag, cg, hvg⟩ := hst.g
        have q0 := hc 0 _ rfl
        have q1 := hc 1 _ rfl
        have q2 := hc 2 _ rfl
        have q3 := hc 3 _ rfl
        have q4 := hc 4 _ rfl
        have q5 := hc 5 _ rfl
        have q6 := hc 6 _ rfl
        have q7 := hc 7 _ rfl
        have q8 := hc 8 _ rfl
        have q9 := hc 9 _ rfl
        have q10 := hc 10 _ rfl
        have q11 := hc 11 _ rfl
        have q12 := hc 12 _ rfl
        rw [hvd] at q2
        rw [hvg] at q9
        simp only [Nat.add_zero] at q0
        have HON := hide (fun W => Offer_nil s.op ad ag s.op.deps.length cd s.op.gone.length cg W)
        obtain ⟨S, hdq⟩ := unhide HD
        have HlS := hide hdq.lo
        have HDo := hide (fun X (hX : Below wr.heap.size wr X) => (hdq.below hX).does (by omega) (by decide) s ad ag cd cg hst hvd hvg hsm.1 hsm.2.1 hsm.2.2)
        clear hdq
        have Hq : Hid (∀ X, Below w.heap.size w X → ∀ q v, (encS s)[q]? = some v → X.cell? ⟨g, off + i * 13 + q, none⟩ = some v) := hide (fun X hX q v h => cell_below (hcw q v h) hX)
        have Hvd := hide (And.intro hvd hvg)
        clear hx hcw hc hst hsm hvd hvg
        go_wp2_with fail
        refine (unhide HON _).mono ?_
        rintro e X1 ⟨rfl, b1⟩
        have HB1 := hide b1
        have HTN := hide (Take_nil X1)
        unfold zeroA at HTN
        clear HON b1 q0 q1 q2 q3 q4 q5 q6 q7 q8 q9 q10 q11 q12
        go_wp2_with fail
        refine (unhide HTN).mono ?_
        rintro e X2 ⟨rfl, b2⟩
        go_upto_region 11 with fail
        obtain ⟨V, hV⟩ : ∃ V, X2.alloc (.cells #[.int .i64 0, .int .i64 0, .slice none 0 0, .int .i64 0, .int .i64 0, .int .i64 0, .int .i64 0, .int .i64 0, .string ⟨#[]⟩, .slice none 0 0, .int .i64 0] 42) = V := ⟨_, rfl⟩
        have bV : Below X2.heap.size X2 V := by rw [← hV]; exact ballc (Below.refl _ _) _
        have BV : Bx V X2.heap.size 42 #[.int .i64 0, .int .i64 0, .slice none 0 0, .int .i64 0, .int .i64 0, .int .i64 0, .int .i64 0, .int .i64 0, .string ⟨#[]⟩, .slice none 0 0, .int .i64 0] := by rw [← hV]; exact Bx.new _ _ _
        have hBV := bnext (unhide HB1) (bnext b2 bV)
        have hcq := unhide Hq V (bnext (unhide HBW) hBV)
        have q0 := hcq 0 _ rfl
        have q1 := hcq 1 _ rfl
        have q2 := hcq 2 _ rfl
        have q3 := hcq 3 _ rfl
        have q4 := hcq 4 _ rfl
        have q5 := hcq 5 _ rfl
        have q6 := hcq 6 _ rfl
        have q7 := hcq 7 _ rfl
        have q8 := hcq 8 _ rfl
        have q9 := hcq 9 _ rfl
        have q10 := hcq 10 _ rfl
        have q11 := hcq 11 _ rfl
        have q12 := hcq 12 _ rfl
        rw [(unhide Hvd).1] at q2
        rw [(unhide Hvd).2] at q9
        simp only [Nat.add_zero] at q0
        have HDo2 := hide (unhide HDo V hBV)
        have HBV := hide BV
        have hxl : X2.heap.size < V.heap.size := BV.lt
        have HnS : Hid (¬ S X2.heap.size) := hide (fun e => by have := (unhide HlS _ e).2; have := (unhide HB1).size; have := b2.size; omega)
        clear HTN b2 bV BV hBV hcq HDo HB1
        rw [hV]
        clear hV
        go_wp2_with fail
        refine (unhide HDo2).mono ?_
        rintro e X3 ⟨rfl, S3, hd3, _, k3⟩
        have HD3 : Hid (DP w b r 0 (i + 1) X3) := hide ⟨S3, hd3⟩
        have B3 := (unhide HBV).kp k3 (unhide HnS)
        obtain ⟨y0, y1, y2, y3, y4, y5, y6, y7, y8, y9, y10⟩ := cells_op B3
        have hyl := B3.lt
        have HSm := hide (show Calls Tryz.prog 17 #[.agg #[.int .i64 0, .int .i64 0, .slice none 0 0, .int .i64 0, .int .i64 0, .int .i64 0, .int .i64 0, .int .i64 0, .string ⟨#[]⟩, .slice none 0 0, .int .i64 0], .agg #[.int .i64 0, .int .i64 0, .slice none 0 0, .int .i64 0, .int .i64 0, .int .i64 0, .int .i64 0, .int .i64 0, .string ⟨#[]⟩, .slice none 0 0, .int .i64 0]] X3 (fun e W => e = .returned (.bool true) ∧ Below X3.heap.size X3 W) from lsame_in zeroO (.slice none 0 0) (.slice none 0 0) (.slice none 0 0) (.slice none 0 0) X3 (RC.nil _ _ _) (RC.nil _ _ _) (RC.nil _ _ _) (RC.nil _ _ _) (by decide) (by decide))
        clear HDo2 hd3 k3 B3 HnS HBV HlS q0 q1 q2 q3 q4 q5 q6 q7 q8 q9 q10 q11 q12
        go_wp2_with fail
        refine (unhide HSm).mono ?_
        rintro e X4 ⟨rfl, b4⟩
        have HD4 := hide ((unhide HD3).below b4)
        clear HSm b4 HD3 y0 y1 y2 y3 y4 y5 y6 y7 y8 y9 y10
        go_wp2_with fail
        refine (Waits_nil _).mono ?_
        rintro e X5 ⟨rfl, rfl⟩
        go_wp2_with fail
        refine (Free_nil _).mono ?_
        rintro e X6 ⟨rfl, rfl⟩
        go_wp2_with fail
        refine (Vector_nil _).mono ?_
        rintro e X7 ⟨rfl, rfl⟩
        go_wp2
        go_roundw
        case rel => exact ⟨i + 1, by go_num, by omega, HD4⟩
        case measure => show len0 - ((i : Int) + 1).toNat < len0 - ((i : Nat) : Int).toNat; omega
      · have hlt' : ¬ (i : Int) < (len0 : Int) := by omega
        go_wp2_with fail
        refine (unhide HK _).mono ?_
        rintro r W2 ⟨rfl, hb2⟩
        go_wp2
        go_ret
        exact ⟨rfl, bnext (unhide HBW) hb2⟩

theorem own : ownKnob Tryz.prog.godebug = none := by kernel_rfl
theorem laidOut2 : laidOutB Tryz.prog = true := by kernel_rfl

set_option maxRecDepth 100000 in
theorem lifted (os : Os) (started : os.Started) (H : Type) (enc : TypeId × Value → H) :
    ReturnsInHanded {} Tryz.checked os 5 .any (Rows.causalNothingSpec.pre6 enc Tryz.prog Tryz.f5 Rows.causalNothingRow.domain false) (Rows.causalNothingSpec.post enc Tryz.prog Tryz.f5 false true false false) := by
  refine returnsInHanded_of_change (C := Tryz.checked) own started (by kernel_rfl) Tryz.func5
    (ChangeSpec.witness6 (enc := enc) (C := Tryz.checked) false ⟨#[], #[.slice none 0 0], []⟩ 8 (by kernel_rfl) (by kernel_rfl) (by kernel_rfl) (by kernel_rfl)) ?_
  intro W base args ds gs before hval0 hW hcnd _
  have hval : ∀ (j : Nat) t v, Tryz.f5.params[j]? = some t → args[j]? = some v → Value.okWide Tryz.prog W .any base t v := hval0
  have hW' := hW
  obtain ⟨p, q, hA0, hV, rfl, hfz, hnd⟩ := hW
  have hA : DataW.TrodAll enc Tryz.prog W 0 (fun _ => true) true Tryz.f5.params.toList args.toList ds p := hA0
  rw [Tryz.params5] at hA hval
  obtain ⟨v0, vs0, d0, ds0, p0, q0, hargs, rfl, rfl, h0, r0⟩ := trodAll_cons hA
  obtain ⟨rfl, rfl, rfl⟩ := trodAll_nil r0
  obtain rfl : args = #[v0] := by cases args; simp_all
  obtain ⟨rfl, rfl⟩ := trodVars_none hV
  obtain ⟨a0, len0, cap0, rfl⟩ := okWide_slice Tryz.underlying24 (hval 0 24 v0 rfl rfl)
  have k0 := h0
  have lt0 : ∀ x ∈ p0, x.block < W.heap.size := by obtain ⟨m, hm⟩ := k0; exact DataW.trod_lt m _ _ _ hm
  obtain ⟨z0, w0⟩ : ∃ l : List Stp, RC W (.slice a0 len0 cap0) l.length (flat encS l) ∧ l.length = len0 ∧ len0 ≤ maxLen ∧ ∀ e ∈ l, StW W e := by
    obtain ⟨fuel, hf⟩ := h0
    simp only [Value.cells] at hf
    exact open_steps hf
  clear hA0 hval0
  refine (walk a0 len0 cap0 z0 W w0).mono fun e W' ⟨he, bel⟩ => ?_
  subst he
  exact ⟨_, rfl, _, _, _, [], _, [], hW', trodAll_mk1 (shut_bool Tryz.underlying4 _), (trodAll_cons_mk (Below.trod laidOut2 (by kernel_rfl) (of_decide_eq_true (by kernel_rfl)) k0 bel lt0) trodAll_mk0), rfl, bel.frame _, fun h => by cases h⟩

theorem over : Rows.causalNothingRow.holds Tryz.pinned (OpenSpec.ofChange Rows.causalNothingSpec) :=
  OpenClaim.holds_of_wide 5 Tryz.f5 rfl rfl rfl rfl rfl rfl rfl ⟨rfl, rfl, rfl, rfl, rfl⟩ rfl rfl rfl rfl rfl (by kernel_rfl) Tryz.func5 (by kernel_rfl)
    (of_decide_eq_true (by kernel_rfl)) (by unfold Func.isWrapper; first | (rw [if_pos (by decide +kernel)]; kernel_rfl) | (rw [if_neg (by decide +kernel)]; exact ⟨rfl, rfl⟩))
    (fun os started H enc _ => lifted os started H enc)

end LCausalNothing

theorem causalNothing_holds : Rows.CausalNothingSaid := LCausalNothing.over

end Go.Proofs.YtkkolefionbbcaaGreat
