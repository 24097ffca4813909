/-
  Chapter 23's law FairMost returns true for all events, sites, steps and cuts, and leaves its arguments as they were; no condition.
-/
import Derived.Test.YtmglnaldpcmakaaRows
import Derived.WalkKit
import Derived.ProofKit
import Derived.OpenShut
import Derived.ShutString
import Derived.ChangeOld
import Derived.Below
import Derived.Test.YtmglnaldpcmakaaZOE
import Derived.Test.YtmglnaldpcmakaaZDG
set_option linter.unusedVariables false
set_option linter.unusedSimpArgs false
namespace Go.Proofs.Ytmglnaldpcmakaa
namespace LFairMost
open Go.ChangeShapes Go.WideShapes Go.ChangeAt Go.RowKit Go.Lib
open Go.ChangeMaps (open_string shut_string)

set_option maxRecDepth 100000 in
set_option maxHeartbeats 8000000 in
theorem walk (a0 : Option Addr) (len0 cap0 : Nat) (es : List Ev) (a1 : Option Addr) (len1 cap1 : Nat) (lv : List Int) (frm to : Int) (a4 : Option Addr) (len4 cap4 : Nat) (cuts : List Int) (w : World) (w0 : RV w (.slice a0 len0 cap0) es ∧ es.length = len0 ∧ len0 ≤ maxLen ∧ ∀ e ∈ es, EvW e) (w1 : RN w (.slice a1 len1 cap1) lv ∧ lv.length = len1 ∧ len1 ≤ maxLen ∧ ∀ e ∈ lv, in64 e) (w2 : (Lit.int .i64 frm).wf = true) (w3 : (Lit.int .i64 to).wf = true) (w4 : RN w (.slice a4 len4 cap4) cuts ∧ cuts.length = len4 ∧ len4 ≤ maxLen ∧ ∀ e ∈ cuts, in64 e) :
    Calls Try.prog 6 #[.slice a0 len0 cap0, .slice a1 len1 cap1, .int .i64 frm, .int .i64 to, .slice a4 len4 cap4] w fun e W => e = .returned (.bool true) ∧ Below w.heap.size w W := by
  obtain ⟨hr, rfl, hmx, -⟩ := w0
  obtain ⟨hv, rfl, hmv, -⟩ := w1
  obtain ⟨hf1, hf2⟩ := wf64 w2
  obtain ⟨ht1, ht2⟩ := wf64 w3
  obtain ⟨hcu, rfl, hmc, -⟩ := w4
  unfold maxLen at hmc
  clear w2 w3
  have HLg := hide (large_in a0 a1 es.length lv.length cap0 cap1 w)
  have HK := hide (fun W => awake_in W)
  have mixed : Try.prog.follows .mixedOrders = true := by kernel_rfl
  by_cases hlg : 300 < es.length ∨ 40 < lv.length
  · rw [decide_eq_true hlg] at HLg
    generalize cuts.length = q at *
    clear hlg hr hv hmx hmv hcu
    go_enter Try.func6, Try.ntmps6
    go_wp2_with fail
    refine (unhide HLg).mono ?_
    rintro e Wl ⟨he, hWl⟩
    subst he
    rw [hWl]
    clear hWl
    go_wp2_with fail
    refine (unhide HK _).mono ?_
    rintro e W2 ⟨rfl, hb2⟩
    have Hb2 := hide hb2
    clear hb2 HK HLg
    go_wp2
    go_ret
    exact ⟨rfl, unhide Hb2⟩
  · rw [decide_eq_false hlg] at HLg
    have hl3 : es.length ≤ 300 := by omega
    have hl4 : lv.length ≤ 40 := by omega
    have HWn := hide (Sk.Windows_in w _ _ es lv frm to hr hv (by omega) (by omega) ht2)
    have HFt := hide (fun (W : World) (hb : Hid (Below w.heap.size w W)) (s t : Int) => fitB_in W _ _ es lv s t (hr.below (unhide hb)) (hv.below (unhide hb)) (by omega) (by omega))
    have Hv := hide hv
    have Hcu := hide hcu
    obtain ⟨n, hn⟩ : ∃ n, es.length = n := ⟨_, rfl⟩
    obtain ⟨m, hm⟩ : ∃ m, lv.length = m := ⟨_, rfl⟩
    obtain ⟨q, hq⟩ : ∃ q, cuts.length = q := ⟨_, rfl⟩
    have Hm := hide hm
    have Hq := hide hq
    rw [hn, hm] at HWn HFt HLg ⊢
    rw [hn] at hl3
    rw [hm] at hl4 Hv
    rw [hq] at hmc Hcu ⊢
    clear hlg hmx hmv hn hm hr hv hcu hq
    have hmax : max 0 frm = max frm 0 := by omega
    by_cases hq60 : 60 < q
    · have hq60' : (q : Int) > 60 := by omega
      go_enter Try.func6, Try.ntmps6
      go_wp2_with fail
      refine (unhide HLg).mono ?_
      rintro e Wl ⟨he, hWl⟩
      subst he
      rw [hWl]
      clear hWl
      go_wp2_with fail
      refine (unhide HK _).mono ?_
      rintro e W2 ⟨rfl, hb2⟩
      have Hb2 := hide hb2
      clear hb2 HK HLg
      go_wp2
      go_ret
      exact ⟨rfl, unhide Hb2⟩
    have hq60' : ¬ (q : Int) > 60 := by omega
    go_enter Try.func6, Try.ntmps6
    go_wp2_with fail
    refine (unhide HLg).mono ?_
    rintro e Wl ⟨he, hWl⟩
    subst he
    rw [hWl]
    clear hWl
    go_wp2_with fail
    refine (unhide HWn).mono ?_
    rintro e W1 ⟨v, l, rfl, ho, hw, hll, hb1⟩
    obtain ⟨av, cv, rfl⟩ := OwW.form ho
    have Hw := hide hw
    have Hb1 := hide hb1
    obtain ⟨k, hk⟩ : ∃ k, l.length = k := ⟨_, rfl⟩
    have Hk := hide hk
    rw [hk] at hll ⊢
    have HFt1 := hide (fun (W : World) (hb : Hid (Below W1.heap.size W1 W)) (s t : Int) => unhide HFt W (hide (bnext hb1 (unhide hb))) s t)
    clear ho hw hb1 HWn HLg hk HFt
    have HI : Hid (Below W1.heap.size W1 W1) := Below.refl _ _
    go_wp2
    go_loopw [12, 13] (fun tv jv wr => ∃ (f : Bool) (j : Nat), 1 ≤ j ∧ tv = .bool f ∧ jv = .int .i64 (j : Nat) ∧ Hid (TwI lv f j ∧ Below W1.heap.size W1 wr)) (fun _ jv _ => m + 1 - (RowKit.intOf jv).toNat)
    case atStart => exact ⟨_, 1, by omega, rfl, rfl, hide ⟨twI_one lv, unhide HI⟩⟩
    case round =>
      obtain ⟨f, j, hj, rfl, rfl, HJ⟩ := hrel
      clear HI
      by_cases hjm : j < m
      · have hjm' : (j : Int) < (m : Int) := by omega
        have hm0 : (0 : Int) < (m : Int) := by omega
        have hjl : j < lv.length := by rw [unhide Hm]; exact hjm
        obtain ⟨x, hx⟩ : ∃ x, lv[0]? = some x := ⟨_, List.getElem?_eq_getElem (by omega)⟩
        obtain ⟨y, hy⟩ : ∃ y, lv[j]? = some y := ⟨_, List.getElem?_eq_getElem hjl⟩
        have hrv := (unhide Hv).below (bnext (unhide Hb1) (unhide HJ).2)
        obtain ⟨b, off, rfl, _, k0⟩ := RN.at hrv hx
        obtain ⟨b', off', e, _, k1⟩ := RN.at hrv hy
        simp only [Option.some.injEq, Addr.mk.injEq, and_true] at e
        obtain ⟨rfl, rfl⟩ := e
        rw [Nat.add_zero] at k0
        have hff := (unhide HJ).1
        have Hbj := hide (unhide HJ).2
        cases f with
        | true =>
          have Hres := hide (twI_keep hy hx hff)
          clear hff hx hy hrv HJ
          go_wp2
          go_quiet (fail)
          have hb2 := hide (bdrew (unhide Hbj) nq)
          go_wp2
          go_roundw
          case rel => exact ⟨true, j + 1, by omega, rfl, by go_num, hide ⟨unhide Hres, unhide hb2⟩⟩
          case measure => show m + 1 - ((j : Int) + 1).toNat < m + 1 - ((j : Nat) : Int).toNat; omega
        | false =>
          by_cases e : y = x
          · subst e
            have Hres := hide (twI_same hy hx hff)
            clear hff hx hy hrv HJ
            go_wp2
            go_quiet (fail)
            have hb2 := hide (bdrew (unhide Hbj) nq)
            go_wp2
            go_roundw
            case rel => exact ⟨false, j + 1, by omega, rfl, by go_num, hide ⟨unhide Hres, unhide hb2⟩⟩
            case measure => show m + 1 - ((j : Int) + 1).toNat < m + 1 - ((j : Nat) : Int).toNat; omega
          · have e' : (y != x) = true := by rw [bne_iff_ne]; exact e
            have Hres := hide (twI_new (f := false) hy hx e)
            clear hff hx hy hrv HJ
            go_wp2
            go_quiet (fail)
            have hb2 := hide (bdrew (unhide Hbj) nq)
            go_wp2
            go_roundw
            case rel => exact ⟨true, j + 1, by omega, rfl, by go_num, hide ⟨unhide Hres, unhide hb2⟩⟩
            case measure => show m + 1 - ((j : Int) + 1).toNat < m + 1 - ((j : Nat) : Int).toNat; omega
      · have hjm' : ¬ (j : Int) < (m : Int) := by omega
        have hff := twI_all (unhide HJ).1 (by rw [unhide Hm]; omega)
        have Hbj := hide (unhide HJ).2
        clear HJ
        go_wp2
        go_loopw [14, 15, 16] (fun tv nv iv wr => ∃ (g : Int) (c i : Nat), i ≤ q ∧ c ≤ k ∧ tv = .int .i64 g ∧ nv = .int .i64 (c : Nat) ∧ iv = .int .i64 (i : Nat) ∧ Hid ((f = true → endW (max frm 0) (l.take c) ≤ g) ∧ Below W1.heap.size W1 wr)) (fun _ _ iv _ => q - (RowKit.intOf iv).toNat)
        case atStart => exact ⟨_, 0, 0, Nat.zero_le _, Nat.zero_le _, rfl, rfl, rfl, hide ⟨fun _ => by show max frm 0 ≤ _; omega, unhide Hbj⟩⟩
        case round =>
          obtain ⟨g, c, i, hi, hck, rfl, rfl, rfl, HG⟩ := hrel
          cases f with
          | false =>
            have Hbg := hide (unhide HG).2
            have hck' : (c : Int) ≤ (k : Int) := by omega
            clear HG hff
            by_cases hiq : i < q
            · have hiq' : (i : Int) < (q : Int) := by omega
              go_wp2_with fail
              refine (unhide HK _).mono ?_
              rintro e W6 ⟨rfl, hb6⟩
              have Hb6 := hide (bnext (bnext (unhide Hb1) (unhide Hbg)) hb6)
              clear hb6
              go_wp2
              go_ret
              exact ⟨by simp, unhide Hb6⟩
            · have hiq' : ¬ (i : Int) < (q : Int) := by omega
              go_wp2_with fail
              refine (unhide HK _).mono ?_
              rintro e W6 ⟨rfl, hb6⟩
              have Hb6 := hide (bnext (bnext (unhide Hb1) (unhide Hbg)) hb6)
              clear hb6
              go_wp2
              go_ret
              exact ⟨by simp, unhide Hb6⟩
          | true =>
            by_cases hiq : i < q
            · have hiq' : (i : Int) < (q : Int) := by omega
              obtain ⟨x, hx⟩ : ∃ x, cuts[i]? = some x := ⟨_, List.getElem?_eq_getElem (by rw [unhide Hq]; exact hiq)⟩
              have hrc := (unhide Hcu).below (bnext (unhide Hb1) (unhide HG).2)
              obtain ⟨bc, oc, rfl, _, k0⟩ := RN.at hrc hx
              have hms := hide (fun (hc : x ≤ to) (hf : fitB es lv g x = true) => winP_most (unhide Hw) (hff.1 rfl) (by rw [unhide Hk]; exact hck) ((unhide HG).1 rfl) hc (fitB_fair hf))
              have Hff := hide hff
              have Hbg := hide (unhide HG).2
              have Hg := hide (unhide HG).1
              clear hx hrc HG hff
              by_cases h1 : x > g
              · by_cases h2 : x ≤ to
                · have hfx := hide (unhide HFt1 wr Hbg g x)
                  obtain ⟨fb, hfb⟩ : ∃ fb, fitB es lv g x = fb := ⟨_, rfl⟩
                  rw [hfb] at hfx hms
                  cases fb with
                  | true =>
                    have hm2 := unhide hms h2 rfl
                    rw [unhide Hk] at hm2
                    have hc1 := hm2.1
                    have Hm2 := hide hm2.2
                    clear hms hm2 hfb
                    go_wp2_with fail
                    refine (unhide hfx).mono ?_
                    rintro e W5 ⟨rfl, hb5⟩
                    have k5 := cell_below k0 hb5
                    have Hb5 := hide (bnext (unhide Hbg) hb5)
                    clear hb5 hfx
                    go_wp2
                    go_roundw
                    case rel => exact ⟨x, c + 1, i + 1, by omega, hc1, rfl, by go_num, by go_num, hide ⟨fun _ => unhide Hm2, unhide Hb5⟩⟩
                    case measure => show q - ((i : Int) + 1).toNat < q - ((i : Nat) : Int).toNat; omega
                  | false =>
                    clear hms hfb
                    go_wp2_with fail
                    refine (unhide hfx).mono ?_
                    rintro e W5 ⟨rfl, hb5⟩
                    have Hb5 := hide (bnext (unhide Hbg) hb5)
                    clear hb5 hfx
                    go_wp2
                    go_roundw
                    case rel => exact ⟨g, c, i + 1, by omega, hck, rfl, rfl, by go_num, hide ⟨fun _ => (by first | exact unhide Hg rfl | exact unhide Hg trivial), unhide Hb5⟩⟩
                    case measure => show q - ((i : Int) + 1).toNat < q - ((i : Nat) : Int).toNat; omega
                · clear hms
                  go_wp2
                  go_roundw
                  case rel => exact ⟨g, c, i + 1, by omega, hck, rfl, rfl, by go_num, hide ⟨fun _ => (by first | exact unhide Hg rfl | exact unhide Hg trivial), unhide Hbg⟩⟩
                  case measure => show q - ((i : Int) + 1).toNat < q - ((i : Nat) : Int).toNat; omega
              · clear hms
                go_wp2
                go_roundw
                case rel => exact ⟨g, c, i + 1, by omega, hck, rfl, rfl, by go_num, hide ⟨fun _ => (by first | exact unhide Hg rfl | exact unhide Hg trivial), unhide Hbg⟩⟩
                case measure => show q - ((i : Int) + 1).toNat < q - ((i : Nat) : Int).toNat; omega
            · have hiq' : ¬ (i : Int) < (q : Int) := by omega
              have Hbg := hide (unhide HG).2
              have hck' : (c : Int) ≤ (k : Int) := by omega
              clear HG hff
              go_wp2_with fail
              refine (unhide HK _).mono ?_
              rintro e W6 ⟨rfl, hb6⟩
              have Hb6 := hide (bnext (bnext (unhide Hb1) (unhide Hbg)) hb6)
              clear hb6
              go_wp2
              go_ret
              exact ⟨by simp, unhide Hb6⟩

theorem own : ownKnob Try.prog.godebug = none := by kernel_rfl
theorem laidOut2 : laidOutB Try.prog = true := by kernel_rfl

set_option maxRecDepth 100000 in
theorem lifted (os : Os) (started : os.Started) (H : Type) (enc : TypeId × Value → H) :
    ReturnsInHanded {} Try.checked os 6 .any (Rows.fairMostSpec.pre6 enc Try.prog Try.f6 Rows.fairMostRow.domain false) (Rows.fairMostSpec.post enc Try.prog Try.f6 false true false false) := by
  refine returnsInHanded_of_change (C := Try.checked) own started (by kernel_rfl) Try.func6
    (ChangeSpec.witness6 (enc := enc) (C := Try.checked) false ⟨#[], #[.slice none 0 0, .slice none 0 0, .int .i64 0, .int .i64 0, .slice none 0 0], []⟩ 8 (by kernel_rfl) (by kernel_rfl) (by kernel_rfl) (by kernel_rfl)) ?_
  intro W base args ds gs before hval0 hW hcnd _
  have hval : ∀ (j : Nat) t v, Try.f6.params[j]? = some t → args[j]? = some v → Value.okWide Try.prog W .any base t v := hval0
  have hW' := hW
  obtain ⟨p, q, hA0, hV, rfl, hfz, hnd⟩ := hW
  have hA : DataW.TrodAll enc Try.prog W 0 (fun _ => true) true Try.f6.params.toList args.toList ds p := hA0
  rw [Try.params6] at hA hval
  obtain ⟨v0, vs0, d0, ds0, p0, q0, hargs, rfl, rfl, h0, r0⟩ := trodAll_cons hA
  obtain ⟨v1, vs1, d1, ds1, p1, q1, rfl, rfl, rfl, h1, r1⟩ := trodAll_cons r0
  obtain ⟨v2, vs2, d2, ds2, p2, q2, rfl, rfl, rfl, h2, r2⟩ := trodAll_cons r1
  obtain ⟨v3, vs3, d3, ds3, p3, q3, rfl, rfl, rfl, h3, r3⟩ := trodAll_cons r2
  obtain ⟨v4, vs4, d4, ds4, p4, q4, rfl, rfl, rfl, h4, r4⟩ := trodAll_cons r3
  obtain ⟨rfl, rfl, rfl⟩ := trodAll_nil r4
  obtain rfl : args = #[v0, v1, v2, v3, v4] := by cases args; simp_all
  obtain ⟨rfl, rfl⟩ := trodVars_none hV
  obtain ⟨a0, len0, cap0, rfl⟩ := okWide_slice Try.underlying22 (hval 0 22 v0 rfl rfl)
  have k0 := h0
  have lt0 : ∀ x ∈ p0, x.block < W.heap.size := by obtain ⟨m, hm⟩ := k0; exact DataW.trod_lt m _ _ _ hm
  obtain ⟨z0, w0⟩ : ∃ l : List Ev, RV W (.slice a0 len0 cap0) l ∧ l.length = len0 ∧ len0 ≤ maxLen ∧ ∀ e ∈ l, EvW e := by
    obtain ⟨fuel, hf⟩ := h0
    simp only [Value.cells] at hf
    exact open_events hf
  obtain ⟨a1, len1, cap1, rfl⟩ := okWide_slice Try.underlying23 (hval 1 23 v1 rfl rfl)
  have k1 := h1
  have lt1 : ∀ x ∈ p1, x.block < W.heap.size := by obtain ⟨m, hm⟩ := k1; exact DataW.trod_lt m _ _ _ hm
  obtain ⟨z1, w1⟩ : ∃ l : List Int, RN W (.slice a1 len1 cap1) l ∧ l.length = len1 ∧ len1 ≤ maxLen ∧ ∀ e ∈ l, in64 e := by
    obtain ⟨fuel, hf⟩ := h1
    simp only [Value.cells] at hf
    exact open_nums hf
  obtain ⟨a2, rfl, rfl, rfl, w2⟩ := open_int Try.underlying3 (hval 2 3 v2 rfl rfl) h2
  obtain ⟨a3, rfl, rfl, rfl, w3⟩ := open_int Try.underlying3 (hval 3 3 v3 rfl rfl) h3
  obtain ⟨a4, len4, cap4, rfl⟩ := okWide_slice Try.underlying23 (hval 4 23 v4 rfl rfl)
  have k4 := h4
  have lt4 : ∀ x ∈ p4, x.block < W.heap.size := by obtain ⟨m, hm⟩ := k4; exact DataW.trod_lt m _ _ _ hm
  obtain ⟨z4, w4⟩ : ∃ l : List Int, RN W (.slice a4 len4 cap4) l ∧ l.length = len4 ∧ len4 ≤ maxLen ∧ ∀ e ∈ l, in64 e := by
    obtain ⟨fuel, hf⟩ := h4
    simp only [Value.cells] at hf
    exact open_nums hf
  clear hA0 hval0
  refine (walk a0 len0 cap0 z0 a1 len1 cap1 z1 a2 a3 a4 len4 cap4 z4 W w0 w1 w2 w3 w4).mono fun e W' ⟨he, bel⟩ => ?_
  subst he
  exact ⟨_, rfl, _, _, _, [], _, [], hW', trodAll_mk1 (shut_bool Try.underlying4 _), (trodAll_cons_mk (Below.trod laidOut2 (by kernel_rfl) (of_decide_eq_true (by kernel_rfl)) k0 bel lt0) (trodAll_cons_mk (Below.trod laidOut2 (by kernel_rfl) (of_decide_eq_true (by kernel_rfl)) k1 bel lt1) (trodAll_cons_mk (shut_int Try.underlying3 w2) (trodAll_cons_mk (shut_int Try.underlying3 w3) (trodAll_cons_mk (Below.trod laidOut2 (by kernel_rfl) (of_decide_eq_true (by kernel_rfl)) k4 bel lt4) trodAll_mk0))))), rfl, bel.frame _, fun h => by cases h⟩

theorem over : Rows.fairMostRow.holds Try.pinned (OpenSpec.ofChange Rows.fairMostSpec) :=
  OpenClaim.holds_of_wide 6 Try.f6 rfl rfl rfl rfl rfl rfl rfl ⟨rfl, rfl, rfl, rfl, rfl⟩ rfl rfl rfl rfl rfl (by kernel_rfl) Try.func6 (by kernel_rfl)
    (of_decide_eq_true (by kernel_rfl)) (by unfold Func.isWrapper; first | (rw [if_pos (by decide +kernel)]; kernel_rfl) | (rw [if_neg (by decide +kernel)]; exact ⟨rfl, rfl⟩))
    (fun os started H enc _ => lifted os started H enc)

end LFairMost

theorem fairMost_holds : Rows.FairMostSaid := LFairMost.over

end Go.Proofs.Ytmglnaldpcmakaa
