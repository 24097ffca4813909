/-
  Chapter 20's law NetTwo returns true for every two scripts, and leaves its arguments as they were; no condition.
-/
import Derived.Test.YteomalmflebkhaaRows
import Derived.WalkKit
import Derived.ProofKit
import Derived.OpenShut
import Derived.ShutString
import Derived.ChangeOld
import Derived.Below
import Derived.Test.YteomalmflebkhaaZSH
import Derived.Deep.CutRange
set_option linter.unusedVariables false
set_option linter.unusedSimpArgs false
namespace Go.Proofs.Yteomalmflebkhaa
namespace LNetTwo
open Go.ChangeShapes Go.WideShapes Go.ChangeAt Go.RowKit Go.Lib
open Go.ChangeMaps (open_string shut_string)

open Go.RowKit Go.Lib
set_option maxRecDepth 100000 in
set_option maxHeartbeats 32000000 in
theorem walk (a : Option Addr) (len cap : Nat) (z : List Stp) (a' : Option Addr) (len' cap' : Nat) (y : List Stp) (W : World) (h : RSt W (.slice a len cap) z ∧ z.length = len ∧ len ≤ maxLen ∧ ∀ e ∈ z, StW W e) (h' : RSt W (.slice a' len' cap') y ∧ y.length = len' ∧ len' ≤ maxLen ∧ ∀ e ∈ y, StW W e) : Calls Try.prog 4 #[.slice a len cap, .slice a' len' cap'] W fun e W' => e = .returned (.bool true) ∧ Below W.heap.size W W' := by
  obtain ⟨hR, hl, hm, hS⟩ := h
  obtain ⟨hR', hl', hm', hS'⟩ := h'
  subst hl
  subst hl'
  have HR := hide hR
  have HSt := hide hS
  have HR' := hide hR'
  have HSt' := hide hS'
  have HMu := hide (much_in z a cap W hR hS (by unfold maxLen at hm; omega))
  have HMu' := hide (fun V (hV : Below W.heap.size W V) => much_in y a' cap' V (hR'.below hV) (fun e he => (hS' e he).below hV) (by unfold maxLen at hm'; omega))
  have HK := hide (fun V => known_in V)
  have HN := hide (fun V => New_in V)
  have HN2 := hide (fun V => rNew_in V)
  obtain ⟨n, hn⟩ : ∃ n, z.length = n := ⟨_, rfl⟩
  have Hn := hide hn
  obtain ⟨m, hmm⟩ : ∃ m, y.length = m := ⟨_, rfl⟩
  have Hm := hide hmm
  rw [hn] at HMu ⊢
  rw [hmm] at HMu' ⊢
  clear hn hmm hR hS hm hR' hS' hm'
  go_enter Try.func4, Try.ntmps4
  go_wp2_with fail
  refine (unhide HMu).mono ?_
  rintro e W1 ⟨R, rfl, hsm, rfl⟩
  clear HMu
  cases R with
  | true =>
    clear hsm HN HN2 HMu'
    go_wp2_with fail
    refine (unhide HK _).mono ?_
    rintro e W2 ⟨rfl, hb⟩
    have HB := hide hb
    clear hb HK
    go_wp2
    go_ret
    exact ⟨rfl, unhide HB⟩
  | false =>
    have HSm := hide (hsm rfl)
    have hn2 : n ≤ 200 := by have := (unhide HSm).1; rw [unhide Hn] at this; exact this
    clear hsm
    go_wp2_with fail
    refine (unhide HMu' _ (Below.refl _ _)).mono ?_
    rintro e W1 ⟨R, rfl, hsm, rfl⟩
    clear HMu'
    cases R with
    | true =>
      clear hsm HN HN2 HSm
      go_wp2_with fail
      refine (unhide HK _).mono ?_
      rintro e W2 ⟨rfl, hb⟩
      have HB := hide hb
      clear hb HK
      go_wp2
      go_ret
      exact ⟨rfl, unhide HB⟩
    | false =>
      have HSm' := hide (hsm rfl)
      have hm2 : m ≤ 200 := by have := (unhide HSm').1; rw [unhide Hm] at this; exact this
      clear hsm
      go_wp2_with fail
      refine (unhide HN _).mono ?_
      rintro e W2 ⟨rfl, hnl, hb⟩
      obtain ⟨W3, hW3⟩ : ∃ W3, W2.alloc (.cells #[.int .i64 0, .map none] 38) = W3 := ⟨_, rfl⟩
      have hz3 : Hid (NL (fun i => W2.heap.size ≤ i) W3 W2.heap.size zerS ∧ Below W2.heap.size W2 W3) := by rw [← hW3]; exact hide ⟨nl_zero W2, ballc (Below.refl _ _) _⟩
      have H1 := hide (And.intro hnl hb)
      clear HN hnl hb
      go_wp2_with fail
      refine (unhide HN2 _).mono ?_
      rintro e W4 ⟨rfl, hhl, hb⟩
      have H4 := hide (And.intro hhl hb)
      clear hhl hb hW3
      go_wp2_with fail
      refine (unhide HN2 _).mono ?_
      rintro e W5 ⟨rfl, hhl, hb⟩
      have J0 : Hid (P4 W W.heap.size W3.heap.size W2.heap.size W4.heap.size zerS zerS W5) := by
        obtain ⟨g1, g2⟩ := unhide H1
        obtain ⟨g3, g4⟩ := unhide hz3
        obtain ⟨g5, g6⟩ := unhide H4
        have z2 := g2.size
        have z3 := g4.size
        have z4 := g6.size
        have z5 := hb.size
        have b23 := bnext g4 g6
        have b25 := bnext b23 hb
        refine hide ⟨fun i => (W.heap.size ≤ i ∧ i < W2.heap.size) ∨ (W3.heap.size ≤ i ∧ i < W4.heap.size), fun i => (W2.heap.size ≤ i ∧ i < W3.heap.size) ∨ (W4.heap.size ≤ i ∧ i < W5.heap.size), ?_, ?_, ?_⟩
        · exact ⟨_, _, g1.lt.below b25, g5.lt.below hb, fun i hi => ⟨.inl hi, fun e => by have := e.1; have := hi.2; omega⟩, fun i hi => .inr hi, fun i hi => by rcases hi with h | h <;> omega, bnext g2 b25⟩
        · exact ⟨_, _, g3.lt.below (bnext g6 hb), hhl.lt, fun i hi => ⟨.inl hi, fun e => by have := e.1; have := hi.2; omega⟩, fun i hi => .inr hi, fun i hi => by rcases hi with h | h <;> omega, bnext g2 b25⟩
        · intro i h1 h2
          rcases h1 with h1 | h1 <;> rcases h2 with h2 | h2 <;> omega
      generalize hp1 : W.heap.size = p1 at J0 ⊢
      generalize hp2 : W2.heap.size = p2 at J0 ⊢
      generalize hp3 : W3.heap.size = p3 at J0 ⊢
      generalize hp4 : W4.heap.size = p4 at J0 ⊢
      have HBA := hide hp1
      clear HN2 hhl hb hp1 hp2 hp3 hp4 H1 H4 hz3
      go_wp2
      go_loopw [9] (fun iv wr => ∃ i : Nat, (i ≤ n ∨ i ≤ m) ∧ iv = .int .i64 (i : Nat) ∧ Hid (∃ s t, P4 W p1 p3 p2 p4 s t wr)) (fun iv _ => n + m - (RowKit.intOf iv).toNat)
      case atStart => exact ⟨0, .inl (Nat.zero_le _), rfl, hide ⟨_, _, unhide J0⟩⟩
      case round =>
        obtain ⟨i, hi, rfl, HI⟩ := hrel
        clear J0
        obtain ⟨s, t, J⟩ := unhide HI
        have hib : i ≤ 200 := by omega
        by_cases hl1 : i < n
        · have hl1' : (i : Int) < (n : Int) := by omega
          by_cases hl2 : i < m
          · have hl2' : (i : Int) < (m : Int) := by omega
            obtain ⟨e1, he1⟩ : ∃ e0, z[i]? = some e0 := ⟨_, List.getElem?_eq_getElem (by rw [unhide Hn]; exact hl1)⟩
            have hmem1 := List.mem_of_getElem? he1
            have hst1 := unhide HSt e1 hmem1
            have hdl1 := (unhide HSm).2 e1 hmem1
            obtain ⟨ae1, ce1, ee1⟩ := hst1.fd
            obtain ⟨ne1, hne1⟩ : ∃ ne, e1.dat.length = ne := ⟨_, rfl⟩
            have HRow1 := hide (fun V (hV : Below W.heap.size W V) => ((unhide HR).below hV).at he1)
            have Hee1 := hide (And.intro ee1 hne1)
            have HS1 := hide (fun V s t (J : P4 W p1 p3 p2 p4 s t V) => J.step e1 hst1 hdl1)
            unfold stC at HS1
            rw [ee1, hne1] at HS1
            clear he1 hmem1 hst1 hdl1 ee1 hne1
            obtain ⟨e2, he2⟩ : ∃ e0, y[i]? = some e0 := ⟨_, List.getElem?_eq_getElem (by rw [unhide Hm]; exact hl2)⟩
            have hmem2 := List.mem_of_getElem? he2
            have hst2 := unhide HSt' e2 hmem2
            have hdl2 := (unhide HSm').2 e2 hmem2
            obtain ⟨ae2, ce2, ee2⟩ := hst2.fd
            obtain ⟨ne2, hne2⟩ : ∃ ne, e2.dat.length = ne := ⟨_, rfl⟩
            have HRow2 := hide (fun V (hV : Below W.heap.size W V) => ((unhide HR').below hV).at he2)
            have Hee2 := hide (And.intro ee2 hne2)
            have HS2 := hide (fun V s t (J : P4 W p2 p4 p1 p3 s t V) => J.step e2 hst2 hdl2)
            unfold stC at HS2
            rw [ee2, hne2] at HS2
            clear he2 hmem2 hst2 hdl2 ee2 hne2
            obtain ⟨bs1, os1, rfl, _, u0, u1, u2, u3, u4, u5⟩ := unhide HRow1 wr J.bel
            rw [(unhide Hee1).1, (unhide Hee1).2] at u5
            have HS := hide (unhide HS1 wr _ _ J)
            clear HS1 HI
            go_wp2_with fail
            refine (unhide HS).mono ?_
            rintro e V1 ⟨rfl, P1⟩
            clear HS u0 u1 u2 u3 u4 u5 J
            obtain ⟨bs2, os2, rfl, _, u0, u1, u2, u3, u4, u5⟩ := unhide HRow2 V1 P1.bel
            rw [(unhide Hee2).1, (unhide Hee2).2] at u5
            have HS := hide (unhide HS2 V1 _ _ P1.swap)
            clear HS2 P1
            go_wp2_with fail
            refine (unhide HS).mono ?_
            rintro e V2 ⟨rfl, P2⟩
            clear HS u0 u1 u2 u3 u4 u5
            have FIN : Hid (∃ s t, P4 W p1 p3 p2 p4 s t V2) := hide ⟨_, _, P2.swap⟩
            clear P2
            go_wp2
            go_roundw
            case rel => exact ⟨i + 1, by omega, by go_num, FIN⟩
            case measure => show n + m - ((i : Int) + 1).toNat < n + m - ((i : Nat) : Int).toNat; omega
          · have hl2' : ¬ (i : Int) < (m : Int) := by omega
            obtain ⟨e1, he1⟩ : ∃ e0, z[i]? = some e0 := ⟨_, List.getElem?_eq_getElem (by rw [unhide Hn]; exact hl1)⟩
            have hmem1 := List.mem_of_getElem? he1
            have hst1 := unhide HSt e1 hmem1
            have hdl1 := (unhide HSm).2 e1 hmem1
            obtain ⟨ae1, ce1, ee1⟩ := hst1.fd
            obtain ⟨ne1, hne1⟩ : ∃ ne, e1.dat.length = ne := ⟨_, rfl⟩
            have HRow1 := hide (fun V (hV : Below W.heap.size W V) => ((unhide HR).below hV).at he1)
            have Hee1 := hide (And.intro ee1 hne1)
            have HS1 := hide (fun V s t (J : P4 W p1 p3 p2 p4 s t V) => J.step e1 hst1 hdl1)
            unfold stC at HS1
            rw [ee1, hne1] at HS1
            clear he1 hmem1 hst1 hdl1 ee1 hne1
            obtain ⟨bs1, os1, rfl, _, u0, u1, u2, u3, u4, u5⟩ := unhide HRow1 wr J.bel
            rw [(unhide Hee1).1, (unhide Hee1).2] at u5
            have HS := hide (unhide HS1 wr _ _ J)
            clear HS1 HI J
            go_wp2_with fail
            refine (unhide HS).mono ?_
            rintro e V1 ⟨rfl, P1⟩
            clear HS u0 u1 u2 u3 u4 u5
            have FIN : Hid (∃ s t, P4 W p1 p3 p2 p4 s t V1) := hide ⟨_, _, P1⟩
            clear P1
            go_wp2
            go_roundw
            case rel => exact ⟨i + 1, by omega, by go_num, FIN⟩
            case measure => show n + m - ((i : Int) + 1).toNat < n + m - ((i : Nat) : Int).toNat; omega
        · have hl1' : ¬ (i : Int) < (n : Int) := by omega
          by_cases hl2 : i < m
          · have hl2' : (i : Int) < (m : Int) := by omega
            obtain ⟨e2, he2⟩ : ∃ e0, y[i]? = some e0 := ⟨_, List.getElem?_eq_getElem (by rw [unhide Hm]; exact hl2)⟩
            have hmem2 := List.mem_of_getElem? he2
            have hst2 := unhide HSt' e2 hmem2
            have hdl2 := (unhide HSm').2 e2 hmem2
            obtain ⟨ae2, ce2, ee2⟩ := hst2.fd
            obtain ⟨ne2, hne2⟩ : ∃ ne, e2.dat.length = ne := ⟨_, rfl⟩
            have HRow2 := hide (fun V (hV : Below W.heap.size W V) => ((unhide HR').below hV).at he2)
            have Hee2 := hide (And.intro ee2 hne2)
            have HS2 := hide (fun V s t (J : P4 W p2 p4 p1 p3 s t V) => J.step e2 hst2 hdl2)
            unfold stC at HS2
            rw [ee2, hne2] at HS2
            clear he2 hmem2 hst2 hdl2 ee2 hne2
            obtain ⟨bs2, os2, rfl, _, u0, u1, u2, u3, u4, u5⟩ := unhide HRow2 wr J.bel
            rw [(unhide Hee2).1, (unhide Hee2).2] at u5
            have HS := hide (unhide HS2 wr _ _ J.swap)
            clear HS2 HI J
            go_wp2_with fail
            refine (unhide HS).mono ?_
            rintro e V1 ⟨rfl, P1⟩
            clear HS u0 u1 u2 u3 u4 u5
            have FIN : Hid (∃ s t, P4 W p1 p3 p2 p4 s t V1) := hide ⟨_, _, P1.swap⟩
            clear P1
            go_wp2
            go_roundw
            case rel => exact ⟨i + 1, by omega, by go_num, FIN⟩
            case measure => show n + m - ((i : Int) + 1).toNat < n + m - ((i : Nat) : Int).toNat; omega
          · have hl2' : ¬ (i : Int) < (m : Int) := by omega
            clear HI
            have HG1 := hide J.gd1
            have hg1 := J.gd1.len'
            have HC1 := hide J.c1
            unfold CopA at HC1
            have HP1 := hide J
            clear J
            go_wp2_with fail
            refine (unhide HC1).mono ?_
            rintro e V12 ⟨a21, k21, L2, rfl, f2, c2, b2⟩
            have HC2 := hide ((unhide HP1).below b2).c2
            unfold CopA at HC2
            have HF2 := hide (And.intro f2 (And.intro c2 b2))
            clear HC1 f2 c2 b2
            go_wp2_with fail
            refine (unhide HC2).mono ?_
            rintro e V13 ⟨a31, k31, L3, rfl, f3, c3, b3⟩
            have HC3 := hide (cop2 (unhide HG1) (unhide HF2).2.1 (unhide HF2).1 b3 c3 f3)
            have HQ1 := hide (((unhide HP1).below (unhide HF2).2.2).below b3)
            clear HC2 f3 c3 b3 HF2 HP1
            go_wp2_with fail
            refine (unhide HC3).mono ?_
            rintro e V14 ⟨rfl, b4⟩
            have HT1 := hide ((unhide HQ1).below b4)
            clear HC3 b4 HQ1
            have J2 := (unhide HT1).swap
            clear HT1
            have HG2 := hide J2.gd1
            have hg2 := J2.gd1.len'
            have HC1 := hide J2.c1
            unfold CopA at HC1
            have HP2 := hide J2
            clear J2
            go_wp2_with fail
            refine (unhide HC1).mono ?_
            rintro e V22 ⟨a22, k22, L2, rfl, f2, c2, b2⟩
            have HC2 := hide ((unhide HP2).below b2).c2
            unfold CopA at HC2
            have HF2 := hide (And.intro f2 (And.intro c2 b2))
            clear HC1 f2 c2 b2
            go_wp2_with fail
            refine (unhide HC2).mono ?_
            rintro e V23 ⟨a32, k32, L3, rfl, f3, c3, b3⟩
            have HC3 := hide (cop2 (unhide HG2) (unhide HF2).2.1 (unhide HF2).1 b3 c3 f3)
            have HQ2 := hide (((unhide HP2).below (unhide HF2).2.2).below b3)
            clear HC2 f3 c3 b3 HF2 HP2
            go_wp2_with fail
            refine (unhide HC3).mono ?_
            rintro e V24 ⟨rfl, b4⟩
            have HT2 := hide ((unhide HQ2).below b4)
            clear HC3 b4 HQ2
            have HB4 := hide (unhide HT2).bel
            clear HT2
            go_wp2_with fail
            refine (unhide HK _).mono ?_
            rintro e V5 ⟨rfl, b5⟩
            have HB5 := hide (bnext (unhide HB4) b5)
            clear HK b5 HB4
            go_wp2
            go_ret
            exact ⟨rfl, unhide HB5⟩

theorem own : ownKnob Try.prog.godebug = none := by kernel_rfl
theorem laidOut2 : laidOutB Try.prog = true := by kernel_rfl

set_option maxRecDepth 100000 in
theorem lifted (os : Os) (started : os.Started) (H : Type) (enc : TypeId × Value → H) :
    ReturnsInHanded {} Try.checked os 4 .any (Rows.netTwoSpec.pre6 enc Try.prog Try.f4 Rows.netTwoRow.domain false) (Rows.netTwoSpec.post enc Try.prog Try.f4 false true false false) := by
  refine returnsInHanded_of_change (C := Try.checked) own started (by kernel_rfl) Try.func4
    (ChangeSpec.witness6 (enc := enc) (C := Try.checked) false ⟨#[], #[.slice none 0 0, .slice none 0 0], []⟩ 8 (by kernel_rfl) (by kernel_rfl) (by kernel_rfl) (by kernel_rfl)) ?_
  intro W base args ds gs before hval0 hW hcnd _
  have hval : ∀ (j : Nat) t v, Try.f4.params[j]? = some t → args[j]? = some v → Value.okWide Try.prog W .any base t v := hval0
  have hW' := hW
  obtain ⟨p, q, hA0, hV, rfl, hfz, hnd⟩ := hW
  have hA : DataW.TrodAll enc Try.prog W 0 (fun _ => true) true Try.f4.params.toList args.toList ds p := hA0
  rw [Try.params4] at hA hval
  obtain ⟨v0, vs0, d0, ds0, p0, q0, hargs, rfl, rfl, h0, r0⟩ := trodAll_cons hA
  obtain ⟨v1, vs1, d1, ds1, p1, q1, rfl, rfl, rfl, h1, r1⟩ := trodAll_cons r0
  obtain ⟨rfl, rfl, rfl⟩ := trodAll_nil r1
  obtain rfl : args = #[v0, v1] := by cases args; simp_all
  obtain ⟨rfl, rfl⟩ := trodVars_none hV
  obtain ⟨a0, len0, cap0, rfl⟩ := okWide_slice Try.underlying22 (hval 0 22 v0 rfl rfl)
  have k0 := h0
  have lt0 : ∀ x ∈ p0, x.block < W.heap.size := by obtain ⟨m, hm⟩ := k0; exact DataW.trod_lt m _ _ _ hm
  obtain ⟨z0, w0⟩ : ∃ l : List Stp, RSt W (.slice a0 len0 cap0) l ∧ l.length = len0 ∧ len0 ≤ maxLen ∧ ∀ e ∈ l, StW W e := by
    obtain ⟨fuel, hf⟩ := h0
    simp only [Value.cells] at hf
    exact open_steps hf
  obtain ⟨a1, len1, cap1, rfl⟩ := okWide_slice Try.underlying22 (hval 1 22 v1 rfl rfl)
  have k1 := h1
  have lt1 : ∀ x ∈ p1, x.block < W.heap.size := by obtain ⟨m, hm⟩ := k1; exact DataW.trod_lt m _ _ _ hm
  obtain ⟨z1, w1⟩ : ∃ l : List Stp, RSt W (.slice a1 len1 cap1) l ∧ l.length = len1 ∧ len1 ≤ maxLen ∧ ∀ e ∈ l, StW W e := by
    obtain ⟨fuel, hf⟩ := h1
    simp only [Value.cells] at hf
    exact open_steps hf
  clear hA0 hval0
  refine (walk a0 len0 cap0 z0 a1 len1 cap1 z1 W w0 w1).mono fun e W' ⟨he, bel⟩ => ?_
  subst he
  exact ⟨_, rfl, _, _, _, [], _, [], hW', trodAll_mk1 (shut_bool Try.underlying4 _), (trodAll_cons_mk (Below.trod laidOut2 (by kernel_rfl) (of_decide_eq_true (by kernel_rfl)) k0 bel lt0) (trodAll_cons_mk (Below.trod laidOut2 (by kernel_rfl) (of_decide_eq_true (by kernel_rfl)) k1 bel lt1) trodAll_mk0)), rfl, bel.frame _, fun h => by cases h⟩

theorem over : Rows.netTwoRow.holds Try.pinned (OpenSpec.ofChange Rows.netTwoSpec) :=
  OpenClaim.holds_of_wide 4 Try.f4 rfl rfl rfl rfl rfl rfl rfl ⟨rfl, rfl, rfl, rfl, rfl⟩ rfl rfl rfl rfl rfl (by kernel_rfl) Try.func4 (by kernel_rfl)
    (of_decide_eq_true (by kernel_rfl)) (by unfold Func.isWrapper; first | (rw [if_pos (by decide +kernel)]; kernel_rfl) | (rw [if_neg (by decide +kernel)]; exact ⟨rfl, rfl⟩))
    (fun os started H enc _ => lifted os started H enc)

end LNetTwo

theorem netTwo_holds : Rows.NetTwoSaid := LNetTwo.over

end Go.Proofs.Yteomalmflebkhaa
