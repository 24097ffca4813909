/-
  Chapter 14's law FrontPlays returns true for every script, and leaves its argument as it was; no condition.
-/
import Derived.Test.YtjiphechhfifgaaRows
import Derived.WalkKit
import Derived.ProofKit
import Derived.OpenShut
import Derived.ShutString
import Derived.ChangeOld
import Derived.Below
import Derived.Test.YtjiphechhfifgaaZFP1
set_option linter.unusedVariables false
set_option linter.unusedSimpArgs false
namespace Go.Proofs.Ytjiphechhfifgaa
namespace LFrontPlays
open Go.ChangeShapes Go.WideShapes Go.ChangeAt Go.RowKit Go.Lib
open Go.ChangeMaps (open_string shut_string)

set_option maxRecDepth 100000 in
set_option maxHeartbeats 8000000 in
theorem walk (a0 : Option Addr) (len0 cap0 : Nat) (ss : List Stp) (w : World) (w0 : RS w (.slice a0 len0 cap0) ss ∧ ss.length = len0 ∧ len0 ≤ maxLen ∧ ∀ e ∈ ss, StW w e) :
    Calls Try.prog 3 #[.slice a0 len0 cap0] w fun e W => e = .returned (.bool true) ∧ Below w.heap.size w W := by
  obtain ⟨hr, hln, hmx, hst⟩ := w0
  unfold maxLen at hmx
  have HMu := hide (much_in a0 len0 cap0 ss w hr hln hst (by omega))
  have HK := hide (fun W => known_in W)
  obtain ⟨MU, hMU⟩ : ∃ m, muchB ss = m := ⟨_, rfl⟩
  rw [hMU] at HMu
  cases MU with
  | true =>
    clear hMU hr hst
    go_enter Try.func3, Try.ntmps3
    go_wp2_with fail
    refine (unhide HMu).mono ?_
    rintro r W1 ⟨rfl, hb1⟩
    replace hb1 := hide hb1
    clear HMu
    go_wp2_with fail
    refine (unhide HK _).mono ?_
    rintro r W2 ⟨rfl, hb2⟩
    go_wp2
    go_ret
    exact ⟨rfl, bnext (unhide hb1) hb2⟩
  | false =>
    obtain ⟨hl0, hsm⟩ := much_small hMU
    rw [hln] at hl0
    have Hln := hide hln
    have Hr := hide hr
    have Hst := hide hst
    have Hsm := hide hsm
    clear hMU hr hst hln hsm
    go_enter Try.func3, Try.ntmps3
    go_wp2_with fail
    refine (unhide HMu).mono ?_
    rintro e W1 ⟨rfl, hb1⟩
    replace hb1 := hide hb1
    have HN := hide (New_in W1)
    obtain ⟨b, hb⟩ : ∃ b, W1.heap.size = b := ⟨_, rfl⟩
    clear HMu
    go_wp2_with fail
    refine (unhide HN).mono ?_
    rintro e W2 ⟨rfl, hf2, hb2⟩
    have HF2 := hide hf2
    have HB2 := hide hb2
    have HN2 := hide (refNew_in W2)
    clear HN hf2 hb2
    go_wp2_with fail
    refine (unhide HN2).mono ?_
    rintro e W3 ⟨rfl, hf3, hb3⟩
    have HJ : Hid (PJ w W3 W1.heap.size 0 W2.heap.size (fun _ => none)) := ⟨_, QA.new (unhide HF2) hb3 hf3, fun i hi => ⟨by have := (unhide hb1).size; have := hi.1; omega, hi.2⟩, bnext (bnext (unhide hb1) (unhide HB2)) hb3⟩
    rw [hb] at HJ
    try rw [hb]
    clear HN2 hf3 hb3 HF2 HB2 hb1 hb
    generalize W2.heap.size = rr at *
    go_wp2
    go_loopw [5] (fun iv wr => ∃ (i : Nat) (S : StF), iv = .int .i64 (i : Nat) ∧ i ≤ len0 ∧ Hid (PJ w wr b i rr S)) (fun iv _ => len0 - (Lib.intOf iv).toNat)
    case atStart => exact ⟨0, _, rfl, by omega, HJ⟩
    case round =>
      obtain ⟨i, S, rfl, hi, HB⟩ := hrel
      clear HJ
      by_cases hlt : i < len0
      · have hlt' : (i : Int) < (len0 : Int) := by omega
        have hls : i < ss.length := by rw [unhide Hln]; exact hlt
        obtain ⟨s, hx⟩ : ∃ s, ss[i]? = some s := ⟨_, List.getElem?_eq_getElem hls⟩
        obtain ⟨b0, off, rfl, hb0, q0, q1, q2, q3⟩ := RS.at ((unhide Hr).below (unhide HB).bel) hx
        have hw := unhide Hst s (List.mem_of_getElem? hx)
        obtain ⟨z1, z2⟩ := unhide Hsm s (List.mem_of_getElem? hx)
        have HS := hide ((unhide HB).step (by omega) s hw z1 z2)
        obtain ⟨av, cv, hv⟩ := hw.fv
        obtain ⟨am, cm, hm⟩ := hw.fm
        rw [hv] at q2
        rw [hm] at q3
        unfold stA at HS
        rw [hv, hm] at HS
        obtain ⟨T, hT⟩ : ∃ T, doS s S = T := ⟨_, rfl⟩
        rw [hT] at HS
        generalize s.kind = k0 at *
        generalize s.site = k1 at *
        generalize s.vec.length = k2 at *
        generalize s.mem.length = k3 at *
        clear hx hw hv hm hT z1 z2
        go_wp2_with fail
        refine (unhide HS).mono ?_
        rintro e W4 ⟨rfl, h4⟩
        have HA := hide h4.alike
        clear h4 HS
        go_wp2_with fail
        refine (unhide HA).mono ?_
        rintro e W5 ⟨rfl, h5⟩
        have H5 := hide h5
        clear h5 HA
        go_wp2
        go_roundw
        case measure => show len0 - ((i : Int) + 1).toNat < len0 - ((i : Nat) : Int).toNat; omega
        case rel => exact ⟨i + 1, _, by go_num, by omega, H5⟩
      · have hlt' : ¬ (i : Int) < (len0 : Int) := by omega
        have HA := hide (unhide HB).alike
        go_wp2_with fail
        refine (unhide HA).mono ?_
        rintro e W4 ⟨rfl, h4⟩
        have H4 := hide h4.bel
        clear h4 HA
        go_wp2_with fail
        refine (unhide HK _).mono ?_
        rintro r W5 ⟨rfl, hb5⟩
        go_wp2
        go_ret
        exact ⟨rfl, bnext (unhide H4) hb5⟩

theorem own : ownKnob Try.prog.godebug = none := by kernel_rfl
theorem laidOut2 : laidOutB Try.prog = true := by kernel_rfl

set_option maxRecDepth 100000 in
theorem lifted (os : Os) (started : os.Started) (H : Type) (enc : TypeId × Value → H) :
    ReturnsInHanded {} Try.checked os 3 .any (Rows.frontPlaysSpec.pre6 enc Try.prog Try.f3 Rows.frontPlaysRow.domain false) (Rows.frontPlaysSpec.post enc Try.prog Try.f3 false true false false) := by
  refine returnsInHanded_of_change (C := Try.checked) own started (by kernel_rfl) Try.func3
    (ChangeSpec.witness6 (enc := enc) (C := Try.checked) false ⟨#[], #[.slice none 0 0], []⟩ 8 (by kernel_rfl) (by kernel_rfl) (by kernel_rfl) (by kernel_rfl)) ?_
  intro W base args ds gs before hval0 hW hcnd _
  have hval : ∀ (j : Nat) t v, Try.f3.params[j]? = some t → args[j]? = some v → Value.okWide Try.prog W .any base t v := hval0
  have hW' := hW
  obtain ⟨p, q, hA0, hV, rfl, hfz, hnd⟩ := hW
  have hA : DataW.TrodAll enc Try.prog W 0 (fun _ => true) true Try.f3.params.toList args.toList ds p := hA0
  rw [Try.params3] at hA hval
  obtain ⟨v0, vs0, d0, ds0, p0, q0, hargs, rfl, rfl, h0, r0⟩ := trodAll_cons hA
  obtain ⟨rfl, rfl, rfl⟩ := trodAll_nil r0
  obtain rfl : args = #[v0] := by cases args; simp_all
  obtain ⟨rfl, rfl⟩ := trodVars_none hV
  obtain ⟨a0, len0, cap0, rfl⟩ := okWide_slice Try.underlying22 (hval 0 22 v0 rfl rfl)
  have k0 := h0
  have lt0 : ∀ x ∈ p0, x.block < W.heap.size := by obtain ⟨m, hm⟩ := k0; exact DataW.trod_lt m _ _ _ hm
  obtain ⟨z0, w0⟩ : ∃ l : List Stp, RS W (.slice a0 len0 cap0) l ∧ l.length = len0 ∧ len0 ≤ maxLen ∧ ∀ e ∈ l, StW W e := by
    obtain ⟨fuel, hf⟩ := h0
    simp only [Value.cells] at hf
    exact open_steps hf
  clear hA0 hval0
  refine (walk a0 len0 cap0 z0 W w0).mono fun e W' ⟨he, bel⟩ => ?_
  subst he
  exact ⟨_, rfl, _, _, _, [], _, [], hW', trodAll_mk1 (shut_bool Try.underlying4 _), (trodAll_cons_mk (Below.trod laidOut2 (by kernel_rfl) (of_decide_eq_true (by kernel_rfl)) k0 bel lt0) trodAll_mk0), rfl, bel.frame _, fun h => by cases h⟩

theorem over : Rows.frontPlaysRow.holds Try.pinned (OpenSpec.ofChange Rows.frontPlaysSpec) :=
  OpenClaim.holds_of_wide 3 Try.f3 rfl rfl rfl rfl rfl rfl rfl ⟨rfl, rfl, rfl, rfl, rfl⟩ rfl rfl rfl rfl rfl (by kernel_rfl) Try.func3 (by kernel_rfl)
    (of_decide_eq_true (by kernel_rfl)) (by unfold Func.isWrapper; first | (rw [if_pos (by decide +kernel)]; kernel_rfl) | (rw [if_neg (by decide +kernel)]; exact ⟨rfl, rfl⟩))
    (fun os started H enc _ => lifted os started H enc)

end LFrontPlays

theorem frontPlays_holds : Rows.FrontPlaysSaid := LFrontPlays.over

end Go.Proofs.Ytjiphechhfifgaa
