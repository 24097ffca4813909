/-
  Chapter 20's law NetPlays returns true for every script, and leaves its argument as it was; no condition.
-/
import Derived.Test.YteomalmflebkhaaRows
import Derived.WalkKit
import Derived.ProofKit
import Derived.OpenShut
import Derived.ShutString
import Derived.ChangeOld
import Derived.Below
import Derived.Test.YteomalmflebkhaaZSG
import Derived.Deep.CutRange
set_option linter.unusedVariables false
set_option linter.unusedSimpArgs false
namespace Go.Proofs.Yteomalmflebkhaa
namespace LNetPlays
open Go.ChangeShapes Go.WideShapes Go.ChangeAt Go.RowKit Go.Lib
open Go.ChangeMaps (open_string shut_string)

open Go.RowKit Go.Lib
set_option maxRecDepth 100000 in
set_option maxHeartbeats 16000000 in
theorem walk (a : Option Addr) (len cap : Nat) (z : List Stp) (W : World) (h : RSt W (.slice a len cap) z ∧ z.length = len ∧ len ≤ maxLen ∧ ∀ e ∈ z, StW W e) : Calls Try.prog 3 #[.slice a len cap] W fun e W' => e = .returned (.bool true) ∧ Below W.heap.size W W' := by
  obtain ⟨hR, hl, hm, hS⟩ := h
  subst hl
  have HR := hide hR
  have HSt := hide hS
  have HMu := hide (much_in z a cap W hR hS (by unfold maxLen at hm; omega))
  have HK := hide (fun V => known_in V)
  have HN := hide (New_in W)
  have HN2 := hide (fun V => rNew_in V)
  obtain ⟨n, hn⟩ : ∃ n, z.length = n := ⟨_, rfl⟩
  have Hn := hide hn
  rw [hn] at HMu ⊢
  clear hn hR hS hm
  go_enter Try.func3, Try.ntmps3
  go_wp2_with fail
  refine (unhide HMu).mono ?_
  rintro e W1 ⟨R, rfl, hsm, rfl⟩
  clear HMu
  cases R with
  | true =>
    clear hsm HN HN2
    go_wp2_with fail
    refine (unhide HK _).mono ?_
    rintro e W2 ⟨rfl, hb⟩
    have HB := hide hb
    clear hb HK
    go_wp2
    go_ret
    exact ⟨rfl, unhide HB⟩
  | false =>
    have HSm := hide (hsm rfl)
    have hn2 : n ≤ 200 := by have := (unhide HSm).1; rw [unhide Hn] at this; exact this
    clear hsm
    go_wp2_with fail
    refine (unhide HN).mono ?_
    rintro e W2 ⟨rfl, hnl, hb⟩
    have H1 := hide (And.intro hnl hb)
    clear HN hnl hb
    go_wp2_with fail
    refine (unhide HN2 _).mono ?_
    rintro e W3 ⟨rfl, hhl, hb⟩
    have J0 : Hid (PJ W (fun i => W.heap.size ≤ i ∧ i < W3.heap.size) W.heap.size W2.heap.size zerS W3) := by
      obtain ⟨g1, g2⟩ := unhide H1
      have hz := hb.size
      have hz2 := g2.size
      exact hide ⟨_, _, g1.lt.below hb, hhl.lt, fun i hi => ⟨⟨hi.1, by have := hi.2; omega⟩, fun e => by have := e.1; have := hi.2; omega⟩, fun i hi => ⟨by have := hi.1; omega, hi.2⟩, fun i hi => hi, bnext g2 hb⟩
    generalize hba : W.heap.size = b at J0 ⊢
    generalize hbb : W2.heap.size = rr at J0 ⊢
    have HBA := hide hba
    clear HN2 hhl hb hba hbb H1
    go_wp2
    go_loopw [5] (fun iv wr => ∃ i : Nat, i ≤ n ∧ iv = .int .i64 (i : Nat) ∧ Hid (∃ U s, PJ W U b rr s wr)) (fun iv _ => n - (RowKit.intOf iv).toNat)
    case atStart => exact ⟨0, Nat.zero_le _, rfl, hide ⟨_, _, unhide J0⟩⟩
    case round =>
      obtain ⟨i, hi, rfl, HI⟩ := hrel
      clear J0
      obtain ⟨U, s, J⟩ := unhide HI
      by_cases hlt : i < n
      · have hlt' : (i : Int) < (n : Int) := by omega
        obtain ⟨e0, he0⟩ : ∃ e0, z[i]? = some e0 := ⟨_, List.getElem?_eq_getElem (by rw [unhide Hn]; exact hlt)⟩
        have hmem := List.mem_of_getElem? he0
        have rr' := (unhide HR).below J.bel
        rw [show (Value.slice a z.length cap) = .slice a n cap by rw [unhide Hn]] at rr'
        obtain ⟨bs, os, rfl, _, u0, u1, u2, u3, u4, u5⟩ := rr'.at he0
        have hst := unhide HSt e0 hmem
        have hdl := (unhide HSm).2 e0 hmem
        obtain ⟨ae, ce, ee⟩ := hst.fd
        obtain ⟨ne, hne⟩ : ∃ ne, e0.dat.length = ne := ⟨_, rfl⟩
        have HS := hide (J.step e0 hst hdl)
        unfold stC at HS
        rw [ee, hne] at u5 HS
        obtain ⟨s2, hs2⟩ : ∃ s2, doS s e0 = s2 := ⟨_, rfl⟩
        rw [hs2] at HS
        clear J he0 hmem rr' hst hdl ee hne HI hs2
        go_wp2_with fail
        refine (unhide HS).mono ?_
        rintro e V1 ⟨rfl, P1, _⟩
        have HC1 := hide P1.c1
        have HP1 := hide P1
        have hg := P1.gd.len'
        have HG := hide P1.gd
        unfold CopA at HC1
        clear HS P1 u0 u1 u2 u3 u4 u5
        go_wp2_with fail
        refine (unhide HC1).mono ?_
        rintro e V2 ⟨a2, k2, L2, rfl, f2, c2, b2⟩
        have HC2 := hide ((unhide HP1).below b2).c2
        unfold CopA at HC2
        have HF2 := hide (And.intro f2 (And.intro c2 b2))
        clear HC1 f2 c2 b2
        go_wp2_with fail
        refine (unhide HC2).mono ?_
        rintro e V3 ⟨a3, k3, L3, rfl, f3, c3, b3⟩
        have HC3 := hide (cop2 (unhide HG) (unhide HF2).2.1 (unhide HF2).1 b3 c3 f3)
        have HP3 := hide (((unhide HP1).below (unhide HF2).2.2).below b3)
        clear HC2 f3 c3 b3 HF2 HP1
        go_wp2_with fail
        refine (unhide HC3).mono ?_
        rintro e V4 ⟨rfl, b4⟩
        have FIN : Hid (∃ U s, PJ W U b rr s V4) := hide ⟨_, _, (unhide HP3).below b4⟩
        clear HC3 b4 HP3
        go_wp2
        go_roundw
        case rel => exact ⟨i + 1, by omega, by go_num, FIN⟩
        case measure => show n - ((i : Int) + 1).toNat < n - ((i : Nat) : Int).toNat; omega
      · obtain rfl : i = n := by omega
        have hlt' : ¬ (i : Int) < (i : Int) := by omega
        clear hlt
        have HC1 := hide J.c1
        have HP1 := hide J
        have hg := J.gd.len'
        have HG := hide J.gd
        unfold CopA at HC1
        clear J HI
        go_wp2_with fail
        refine (unhide HC1).mono ?_
        rintro e V2 ⟨a2, k2, L2, rfl, f2, c2, b2⟩
        have HC2 := hide ((unhide HP1).below b2).c2
        unfold CopA at HC2
        have HF2 := hide (And.intro f2 (And.intro c2 b2))
        clear HC1 f2 c2 b2
        go_wp2_with fail
        refine (unhide HC2).mono ?_
        rintro e V3 ⟨a3, k3, L3, rfl, f3, c3, b3⟩
        have HC3 := hide (cop2 (unhide HG) (unhide HF2).2.1 (unhide HF2).1 b3 c3 f3)
        have HB3 := hide (((unhide HP1).below (unhide HF2).2.2).below b3).bel
        clear HC2 f3 c3 b3 HF2 HP1
        go_wp2_with fail
        refine (unhide HC3).mono ?_
        rintro e V4 ⟨rfl, b4⟩
        have HB4 := hide (bnext (unhide HB3) b4)
        clear HC3 b4 HB3
        go_wp2_with fail
        refine (unhide HK _).mono ?_
        rintro e V5 ⟨rfl, b5⟩
        have HB5 := hide (bnext (unhide HB4) b5)
        clear HK b5 HB4
        go_wp2
        go_ret
        exact ⟨rfl, unhide HB5⟩

theorem own : ownKnob Try.prog.godebug = none := by kernel_rfl
theorem laidOut2 : laidOutB Try.prog = true := by kernel_rfl

set_option maxRecDepth 100000 in
theorem lifted (os : Os) (started : os.Started) (H : Type) (enc : TypeId × Value → H) :
    ReturnsInHanded {} Try.checked os 3 .any (Rows.netPlaysSpec.pre6 enc Try.prog Try.f3 Rows.netPlaysRow.domain false) (Rows.netPlaysSpec.post enc Try.prog Try.f3 false true false false) := by
  refine returnsInHanded_of_change (C := Try.checked) own started (by kernel_rfl) Try.func3
    (ChangeSpec.witness6 (enc := enc) (C := Try.checked) false ⟨#[], #[.slice none 0 0], []⟩ 8 (by kernel_rfl) (by kernel_rfl) (by kernel_rfl) (by kernel_rfl)) ?_
  intro W base args ds gs before hval0 hW hcnd _
  have hval : ∀ (j : Nat) t v, Try.f3.params[j]? = some t → args[j]? = some v → Value.okWide Try.prog W .any base t v := hval0
  have hW' := hW
  obtain ⟨p, q, hA0, hV, rfl, hfz, hnd⟩ := hW
  have hA : DataW.TrodAll enc Try.prog W 0 (fun _ => true) true Try.f3.params.toList args.toList ds p := hA0
  rw [Try.params3] at hA hval
  obtain ⟨v0, vs0, d0, ds0, p0, q0, hargs, rfl, rfl, h0, r0⟩ := trodAll_cons hA
  obtain ⟨rfl, rfl, rfl⟩ := trodAll_nil r0
  obtain rfl : args = #[v0] := by cases args; simp_all
  obtain ⟨rfl, rfl⟩ := trodVars_none hV
  obtain ⟨a0, len0, cap0, rfl⟩ := okWide_slice Try.underlying22 (hval 0 22 v0 rfl rfl)
  have k0 := h0
  have lt0 : ∀ x ∈ p0, x.block < W.heap.size := by obtain ⟨m, hm⟩ := k0; exact DataW.trod_lt m _ _ _ hm
  obtain ⟨z0, w0⟩ : ∃ l : List Stp, RSt W (.slice a0 len0 cap0) l ∧ l.length = len0 ∧ len0 ≤ maxLen ∧ ∀ e ∈ l, StW W e := by
    obtain ⟨fuel, hf⟩ := h0
    simp only [Value.cells] at hf
    exact open_steps hf
  clear hA0 hval0
  refine (walk a0 len0 cap0 z0 W w0).mono fun e W' ⟨he, bel⟩ => ?_
  subst he
  exact ⟨_, rfl, _, _, _, [], _, [], hW', trodAll_mk1 (shut_bool Try.underlying4 _), (trodAll_cons_mk (Below.trod laidOut2 (by kernel_rfl) (of_decide_eq_true (by kernel_rfl)) k0 bel lt0) trodAll_mk0), rfl, bel.frame _, fun h => by cases h⟩

theorem over : Rows.netPlaysRow.holds Try.pinned (OpenSpec.ofChange Rows.netPlaysSpec) :=
  OpenClaim.holds_of_wide 3 Try.f3 rfl rfl rfl rfl rfl rfl rfl ⟨rfl, rfl, rfl, rfl, rfl⟩ rfl rfl rfl rfl rfl (by kernel_rfl) Try.func3 (by kernel_rfl)
    (of_decide_eq_true (by kernel_rfl)) (by unfold Func.isWrapper; first | (rw [if_pos (by decide +kernel)]; kernel_rfl) | (rw [if_neg (by decide +kernel)]; exact ⟨rfl, rfl⟩))
    (fun os started H enc _ => lifted os started H enc)

end LNetPlays

theorem netPlays_holds : Rows.NetPlaysSaid := LNetPlays.over

end Go.Proofs.Yteomalmflebkhaa
