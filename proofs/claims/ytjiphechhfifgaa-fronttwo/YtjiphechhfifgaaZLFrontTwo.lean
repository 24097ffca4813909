/-
  Chapter 14's law FrontTwo returns true for every two scripts, and leaves its arguments as they were; no condition.
-/
import Derived.Test.YtjiphechhfifgaaRows
import Derived.WalkKit
import Derived.ProofKit
import Derived.OpenShut
import Derived.ShutString
import Derived.ChangeOld
import Derived.Below
import Derived.Test.YtjiphechhfifgaaZFP2
set_option linter.unusedVariables false
set_option linter.unusedSimpArgs false
namespace Go.Proofs.Ytjiphechhfifgaa
namespace LFrontTwo
open Go.ChangeShapes Go.WideShapes Go.ChangeAt Go.RowKit Go.Lib
open Go.ChangeMaps (open_string shut_string)

set_option maxRecDepth 100000 in
set_option maxHeartbeats 16000000 in
theorem walk (a0 : Option Addr) (len0 cap0 : Nat) (ss : List Stp) (a1 : Option Addr) (len1 cap1 : Nat) (ts : List Stp) (w : World) (w0 : RS w (.slice a0 len0 cap0) ss ∧ ss.length = len0 ∧ len0 ≤ maxLen ∧ ∀ e ∈ ss, StW w e) (w1 : RS w (.slice a1 len1 cap1) ts ∧ ts.length = len1 ∧ len1 ≤ maxLen ∧ ∀ e ∈ ts, StW w e) :
    Calls Try.prog 4 #[.slice a0 len0 cap0, .slice a1 len1 cap1] w fun e W => e = .returned (.bool true) ∧ Below w.heap.size w W := by
  obtain ⟨hr0, hln0, hmx0, hst0⟩ := w0
  obtain ⟨hr1, hln1, hmx1, hst1⟩ := w1
  unfold maxLen at hmx0 hmx1
  have HMu := hide (much_in a0 len0 cap0 ss w hr0 hln0 hst0 (by omega))
  have HMv := hide (fun W (hb : Below w.heap.size w W) => much_in a1 len1 cap1 ts W (hr1.below hb) hln1 (fun e he => (hst1 e he).below hb) (by omega))
  have HK := hide (fun W => known_in W)
  obtain ⟨MU, hMU⟩ : ∃ m, muchB ss = m := ⟨_, rfl⟩
  rw [hMU] at HMu
  obtain ⟨MV, hMV⟩ : ∃ m, muchB ts = m := ⟨_, rfl⟩
  rw [hMV] at HMv
  cases MU with
  | true =>
    clear hMU hMV hr0 hst0 hr1 hst1 HMv
    go_enter Try.func4, Try.ntmps4
    go_wp2_with fail
    refine (unhide HMu).mono ?_
    rintro r W1 ⟨rfl, hb1⟩
    replace hb1 := hide hb1
    clear HMu
    go_wp2_with fail
    refine (unhide HK _).mono ?_
    rintro r W2 ⟨rfl, hb2⟩
    go_wp2
    go_ret
    exact ⟨rfl, bnext (unhide hb1) hb2⟩
  | false =>
  cases MV with
  | true =>
    clear hMU hMV hr0 hst0 hr1 hst1
    go_enter Try.func4, Try.ntmps4
    go_wp2_with fail
    refine (unhide HMu).mono ?_
    rintro r W1 ⟨rfl, hb1⟩
    have HM2 := hide (unhide HMv W1 hb1)
    replace hb1 := hide hb1
    clear HMu HMv
    go_wp2_with fail
    refine (unhide HM2).mono ?_
    rintro r W2 ⟨rfl, hb2⟩
    replace hb2 := hide hb2
    clear HM2
    go_wp2_with fail
    refine (unhide HK _).mono ?_
    rintro r W3 ⟨rfl, hb3⟩
    go_wp2
    go_ret
    exact ⟨rfl, bnext (bnext (unhide hb1) (unhide hb2)) hb3⟩
  | false =>
    obtain ⟨hl0, hsm0⟩ := much_small hMU
    obtain ⟨hl1, hsm1⟩ := much_small hMV
    rw [hln0] at hl0
    rw [hln1] at hl1
    have Hln0 := hide hln0
    have Hr0 := hide hr0
    have Hst0 := hide hst0
    have Hsm0 := hide hsm0
    have Hln1 := hide hln1
    have Hr1 := hide hr1
    have Hst1 := hide hst1
    have Hsm1 := hide hsm1
    clear hMU hMV hr0 hst0 hln0 hsm0 hr1 hst1 hln1 hsm1
    go_enter Try.func4, Try.ntmps4
    go_wp2_with fail
    refine (unhide HMu).mono ?_
    rintro r W0 ⟨rfl, hb0⟩
    have HM2 := hide (unhide HMv W0 hb0)
    replace hb0 := hide hb0
    clear HMu HMv
    go_wp2_with fail
    refine (unhide HM2).mono ?_
    rintro r W1 ⟨rfl, hb1'⟩
    have hb1 := hide (bnext (unhide hb0) hb1')
    have HN := hide (New_in W1)
    obtain ⟨b, hb⟩ : ∃ b, W1.heap.size = b := ⟨_, rfl⟩
    clear HM2 hb0 hb1'
    go_wp2_with fail
    refine (unhide HN).mono ?_
    rintro e W2 ⟨rfl, hf2, hb2⟩
    have HF2 := hide hf2
    have HB2 := hide hb2
    obtain ⟨W3, hW3⟩ : ∃ W3, W2.alloc (.cells #[.pointer none] 38) = W3 := ⟨_, rfl⟩
    have HB3 : Hid (Below W2.heap.size W2 W3) := by rw [← hW3]; exact ballc (Below.refl _ _) _
    have HF3 : Hid (FR (fun i => W2.heap.size ≤ i) W3 W2.heap.size 0 (fun _ => none)) := by rw [← hW3]; exact ⟨Nat.le_refl _, _, Bx.new _ _ _, .inl ⟨rfl, fun _ => rfl⟩⟩
    have HN3 := hide (refNew_in W3)
    obtain ⟨b', hb'⟩ : ∃ b, W2.heap.size = b := ⟨_, rfl⟩
    clear HN hf2 hb2
    go_wp2_with fail
    refine (unhide HN3).mono ?_
    rintro e W4 ⟨rfl, hd4, hb4⟩
    have HD4 := hide hd4
    have HB4 := hide hb4
    have HN4 := hide (refNew_in W4)
    obtain ⟨rr, hrr⟩ : ∃ b, W3.heap.size = b := ⟨_, rfl⟩
    clear HN3 hd4 hb4 hW3
    go_wp2_with fail
    refine (unhide HN4).mono ?_
    rintro e W5 ⟨rfl, hd5, hb5⟩
    have HJ : Hid (P4 w W5 W1.heap.size 0 W3.heap.size (fun _ => none) W2.heap.size 0 W4.heap.size (fun _ => none)) := P4.new (unhide hb1) (unhide HB2) (unhide HB3) (unhide HB4) hb5 (unhide HF2) (unhide HF3) (unhide HD4) hd5
    rw [hb, hb', hrr] at HJ
    try rw [hb]
    try rw [hb']
    try rw [hrr]
    clear HN4 hd5 hb5 HF2 HB2 HF3 HB3 HD4 HB4 hb1 hb hb' hrr
    generalize W4.heap.size = rr' at *
    go_wp2
    go_loopw [9] (fun iv wr => ∃ (i m m' : Nat) (S S' : StF), iv = .int .i64 (i : Nat) ∧ (i ≤ len0 ∨ i ≤ len1) ∧ m ≤ i ∧ m' ≤ i ∧ Hid (P4 w wr b m rr S b' m' rr' S')) (fun iv _ => len0 + len1 - (Lib.intOf iv).toNat)
    case atStart => exact ⟨0, 0, 0, _, _, rfl, by omega, by omega, by omega, HJ⟩
    case round =>
      obtain ⟨i, m, m', S, S', rfl, hi, hm, hm', HB⟩ := hrel
      clear HJ
      have hi2 : i ≤ 200 := by omega
      by_cases hlt0 : i < len0
      · have hlt0' : (i : Int) < (len0 : Int) := by omega
        by_cases hlt1 : i < len1
        · have hlt1' : (i : Int) < (len1 : Int) := by omega
          have hls0 : i < ss.length := by rw [unhide Hln0]; exact hlt0
          obtain ⟨s0, hx0⟩ : ∃ s, ss[i]? = some s := ⟨_, List.getElem?_eq_getElem hls0⟩
          have hw0 := unhide Hst0 s0 (List.mem_of_getElem? hx0)
          obtain ⟨z10, z20⟩ := unhide Hsm0 s0 (List.mem_of_getElem? hx0)
          have hls1 : i < ts.length := by rw [unhide Hln1]; exact hlt1
          obtain ⟨s1, hx1⟩ : ∃ s, ts[i]? = some s := ⟨_, List.getElem?_eq_getElem hls1⟩
          have hw1 := unhide Hst1 s1 (List.mem_of_getElem? hx1)
          obtain ⟨z11, z21⟩ := unhide Hsm1 s1 (List.mem_of_getElem? hx1)
          obtain ⟨ba0, off0, ea0, hb0, q00, q10, q20, q30⟩ := RS.at ((unhide Hr0).below (unhide HB).bel) hx0
          subst ea0
          have HS0 := hide ((unhide HB).step (by omega) s0 hw0 z10 z20)
          obtain ⟨av0, cv0, hv0⟩ := hw0.fv
          obtain ⟨am0, cm0, hm0⟩ := hw0.fm
          rw [hv0] at q20
          rw [hm0] at q30
          unfold stA at HS0
          rw [hv0, hm0] at HS0
          generalize doS s0 S = T0 at *
          clear hx0 hw0 hv0 hm0 z10 z20 HB
          go_wp2_with fail
          refine (unhide HS0).mono ?_
          rintro e W6 ⟨rfl, hh0⟩
          have H6 := hide hh0
          clear hh0 HS0 q00 q10 q20 q30
          obtain ⟨ba1, off1, ea1, hb1, q01, q11, q21, q31⟩ := RS.at ((unhide Hr1).below (unhide H6).bel) hx1
          subst ea1
          have HS1 := hide ((unhide H6).swap.step (by omega) s1 hw1 z11 z21)
          obtain ⟨av1, cv1, hv1⟩ := hw1.fv
          obtain ⟨am1, cm1, hm1⟩ := hw1.fm
          rw [hv1] at q21
          rw [hm1] at q31
          unfold stA at HS1
          rw [hv1, hm1] at HS1
          generalize doS s1 S' = T1 at *
          clear hx1 hw1 hv1 hm1 z11 z21 H6
          go_wp2_with fail
          refine (unhide HS1).mono ?_
          rintro e W7 ⟨rfl, hh1⟩
          have H7 := hide hh1.swap
          clear hh1 HS1 q01 q11 q21 q31
          go_wp2
          go_roundw
          case measure => show len0 + len1 - ((i : Int) + 1).toNat < len0 + len1 - ((i : Nat) : Int).toNat; omega
          case rel => exact ⟨i + 1, _, _, _, _, by go_num, by omega, by omega, by omega, H7⟩
        · have hlt1' : ¬ (i : Int) < (len1 : Int) := by omega
          have hls0 : i < ss.length := by rw [unhide Hln0]; exact hlt0
          obtain ⟨s0, hx0⟩ : ∃ s, ss[i]? = some s := ⟨_, List.getElem?_eq_getElem hls0⟩
          have hw0 := unhide Hst0 s0 (List.mem_of_getElem? hx0)
          obtain ⟨z10, z20⟩ := unhide Hsm0 s0 (List.mem_of_getElem? hx0)
          obtain ⟨ba0, off0, ea0, hb0, q00, q10, q20, q30⟩ := RS.at ((unhide Hr0).below (unhide HB).bel) hx0
          subst ea0
          have HS0 := hide ((unhide HB).step (by omega) s0 hw0 z10 z20)
          obtain ⟨av0, cv0, hv0⟩ := hw0.fv
          obtain ⟨am0, cm0, hm0⟩ := hw0.fm
          rw [hv0] at q20
          rw [hm0] at q30
          unfold stA at HS0
          rw [hv0, hm0] at HS0
          generalize doS s0 S = T0 at *
          clear hx0 hw0 hv0 hm0 z10 z20 HB
          go_wp2_with fail
          refine (unhide HS0).mono ?_
          rintro e W6 ⟨rfl, hh0⟩
          have H6 := hide hh0
          clear hh0 HS0 q00 q10 q20 q30
          go_wp2
          go_roundw
          case measure => show len0 + len1 - ((i : Int) + 1).toNat < len0 + len1 - ((i : Nat) : Int).toNat; omega
          case rel => exact ⟨i + 1, _, _, _, _, by go_num, by omega, by omega, by omega, H6⟩
      · have hlt0' : ¬ (i : Int) < (len0 : Int) := by omega
        by_cases hlt1 : i < len1
        · have hlt1' : (i : Int) < (len1 : Int) := by omega
          have hls1 : i < ts.length := by rw [unhide Hln1]; exact hlt1
          obtain ⟨s1, hx1⟩ : ∃ s, ts[i]? = some s := ⟨_, List.getElem?_eq_getElem hls1⟩
          have hw1 := unhide Hst1 s1 (List.mem_of_getElem? hx1)
          obtain ⟨z11, z21⟩ := unhide Hsm1 s1 (List.mem_of_getElem? hx1)
          obtain ⟨ba1, off1, ea1, hb1, q01, q11, q21, q31⟩ := RS.at ((unhide Hr1).below (unhide HB).bel) hx1
          subst ea1
          have HS1 := hide ((unhide HB).swap.step (by omega) s1 hw1 z11 z21)
          obtain ⟨av1, cv1, hv1⟩ := hw1.fv
          obtain ⟨am1, cm1, hm1⟩ := hw1.fm
          rw [hv1] at q21
          rw [hm1] at q31
          unfold stA at HS1
          rw [hv1, hm1] at HS1
          generalize doS s1 S' = T1 at *
          clear hx1 hw1 hv1 hm1 z11 z21 HB
          go_wp2_with fail
          refine (unhide HS1).mono ?_
          rintro e W7 ⟨rfl, hh1⟩
          have H7 := hide hh1.swap
          clear hh1 HS1 q01 q11 q21 q31
          go_wp2
          go_roundw
          case measure => show len0 + len1 - ((i : Int) + 1).toNat < len0 + len1 - ((i : Nat) : Int).toNat; omega
          case rel => exact ⟨i + 1, _, _, _, _, by go_num, by omega, by omega, by omega, H7⟩
        · have hlt1' : ¬ (i : Int) < (len1 : Int) := by omega
          have HA := hide (unhide HB).alike
          clear HB
          go_wp2_with fail
          refine (unhide HA).mono ?_
          rintro e W6 ⟨rfl, h6⟩
          have HA2 := hide h6.swap.alike
          clear h6 HA
          go_wp2_with fail
          refine (unhide HA2).mono ?_
          rintro e W7 ⟨rfl, h7⟩
          have H7 := hide h7.bel
          clear h7 HA2
          go_wp2_with fail
          refine (unhide HK _).mono ?_
          rintro r W8 ⟨rfl, hb8⟩
          go_wp2
          go_ret
          exact ⟨rfl, bnext (unhide H7) hb8⟩

theorem own : ownKnob Try.prog.godebug = none := by kernel_rfl
theorem laidOut2 : laidOutB Try.prog = true := by kernel_rfl

set_option maxRecDepth 100000 in
theorem lifted (os : Os) (started : os.Started) (H : Type) (enc : TypeId × Value → H) :
    ReturnsInHanded {} Try.checked os 4 .any (Rows.frontTwoSpec.pre6 enc Try.prog Try.f4 Rows.frontTwoRow.domain false) (Rows.frontTwoSpec.post enc Try.prog Try.f4 false true false false) := by
  refine returnsInHanded_of_change (C := Try.checked) own started (by kernel_rfl) Try.func4
    (ChangeSpec.witness6 (enc := enc) (C := Try.checked) false ⟨#[], #[.slice none 0 0, .slice none 0 0], []⟩ 8 (by kernel_rfl) (by kernel_rfl) (by kernel_rfl) (by kernel_rfl)) ?_
  intro W base args ds gs before hval0 hW hcnd _
  have hval : ∀ (j : Nat) t v, Try.f4.params[j]? = some t → args[j]? = some v → Value.okWide Try.prog W .any base t v := hval0
  have hW' := hW
  obtain ⟨p, q, hA0, hV, rfl, hfz, hnd⟩ := hW
  have hA : DataW.TrodAll enc Try.prog W 0 (fun _ => true) true Try.f4.params.toList args.toList ds p := hA0
  rw [Try.params4] at hA hval
  obtain ⟨v0, vs0, d0, ds0, p0, q0, hargs, rfl, rfl, h0, r0⟩ := trodAll_cons hA
  obtain ⟨v1, vs1, d1, ds1, p1, q1, rfl, rfl, rfl, h1, r1⟩ := trodAll_cons r0
  obtain ⟨rfl, rfl, rfl⟩ := trodAll_nil r1
  obtain rfl : args = #[v0, v1] := by cases args; simp_all
  obtain ⟨rfl, rfl⟩ := trodVars_none hV
  obtain ⟨a0, len0, cap0, rfl⟩ := okWide_slice Try.underlying22 (hval 0 22 v0 rfl rfl)
  have k0 := h0
  have lt0 : ∀ x ∈ p0, x.block < W.heap.size := by obtain ⟨m, hm⟩ := k0; exact DataW.trod_lt m _ _ _ hm
  obtain ⟨z0, w0⟩ : ∃ l : List Stp, RS W (.slice a0 len0 cap0) l ∧ l.length = len0 ∧ len0 ≤ maxLen ∧ ∀ e ∈ l, StW W e := by
    obtain ⟨fuel, hf⟩ := h0
    simp only [Value.cells] at hf
    exact open_steps hf
  obtain ⟨a1, len1, cap1, rfl⟩ := okWide_slice Try.underlying22 (hval 1 22 v1 rfl rfl)
  have k1 := h1
  have lt1 : ∀ x ∈ p1, x.block < W.heap.size := by obtain ⟨m, hm⟩ := k1; exact DataW.trod_lt m _ _ _ hm
  obtain ⟨z1, w1⟩ : ∃ l : List Stp, RS W (.slice a1 len1 cap1) l ∧ l.length = len1 ∧ len1 ≤ maxLen ∧ ∀ e ∈ l, StW W e := by
    obtain ⟨fuel, hf⟩ := h1
    simp only [Value.cells] at hf
    exact open_steps hf
  clear hA0 hval0
  refine (walk a0 len0 cap0 z0 a1 len1 cap1 z1 W w0 w1).mono fun e W' ⟨he, bel⟩ => ?_
  subst he
  exact ⟨_, rfl, _, _, _, [], _, [], hW', trodAll_mk1 (shut_bool Try.underlying4 _), (trodAll_cons_mk (Below.trod laidOut2 (by kernel_rfl) (of_decide_eq_true (by kernel_rfl)) k0 bel lt0) (trodAll_cons_mk (Below.trod laidOut2 (by kernel_rfl) (of_decide_eq_true (by kernel_rfl)) k1 bel lt1) trodAll_mk0)), rfl, bel.frame _, fun h => by cases h⟩

theorem over : Rows.frontTwoRow.holds Try.pinned (OpenSpec.ofChange Rows.frontTwoSpec) :=
  OpenClaim.holds_of_wide 4 Try.f4 rfl rfl rfl rfl rfl rfl rfl ⟨rfl, rfl, rfl, rfl, rfl⟩ rfl rfl rfl rfl rfl (by kernel_rfl) Try.func4 (by kernel_rfl)
    (of_decide_eq_true (by kernel_rfl)) (by unfold Func.isWrapper; first | (rw [if_pos (by decide +kernel)]; kernel_rfl) | (rw [if_neg (by decide +kernel)]; exact ⟨rfl, rfl⟩))
    (fun os started H enc _ => lifted os started H enc)

end LFrontTwo

theorem frontTwo_holds : Rows.FrontTwoSaid := LFrontTwo.over

end Go.Proofs.Ytjiphechhfifgaa
