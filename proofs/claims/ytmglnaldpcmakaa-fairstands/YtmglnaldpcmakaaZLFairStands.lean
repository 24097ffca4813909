/-
  Chapter 23's law FairStands returns true for all events, sites and steps, and leaves its arguments as they were; no condition.
-/
import Derived.Test.YtmglnaldpcmakaaRows
import Derived.WalkKit
import Derived.ProofKit
import Derived.OpenShut
import Derived.ShutString
import Derived.ChangeOld
import Derived.Below
import Derived.Test.YtmglnaldpcmakaaZOE
import Derived.Test.YtmglnaldpcmakaaZDG
import Derived.Deep.RegionHeld3
set_option linter.unusedVariables false
set_option linter.unusedSimpArgs false
namespace Go.Proofs.Ytmglnaldpcmakaa
namespace LFairStands
open Go.ChangeShapes Go.WideShapes Go.ChangeAt Go.RowKit Go.Lib
open Go.ChangeMaps (open_string shut_string)

set_option maxRecDepth 100000 in
set_option maxHeartbeats 8000000 in
theorem walk (a0 : Option Addr) (len0 cap0 : Nat) (es : List Ev) (a1 : Option Addr) (len1 cap1 : Nat) (lv : List Int) (frm to : Int) (w : World) (w0 : RV w (.slice a0 len0 cap0) es ∧ es.length = len0 ∧ len0 ≤ maxLen ∧ ∀ e ∈ es, EvW e) (w1 : RN w (.slice a1 len1 cap1) lv ∧ lv.length = len1 ∧ len1 ≤ maxLen ∧ ∀ e ∈ lv, in64 e) (w2 : (Lit.int .i64 frm).wf = true) (w3 : (Lit.int .i64 to).wf = true) :
    Calls Try.prog 5 #[.slice a0 len0 cap0, .slice a1 len1 cap1, .int .i64 frm, .int .i64 to] w fun e W => e = .returned (.bool true) ∧ Below w.heap.size w W := by
  obtain ⟨hr, rfl, hmx, -⟩ := w0
  obtain ⟨hv, rfl, hmv, -⟩ := w1
  obtain ⟨hf1, hf2⟩ := wf64 w2
  obtain ⟨ht1, ht2⟩ := wf64 w3
  clear w2 w3
  have HLg := hide (large_in a0 a1 es.length lv.length cap0 cap1 w)
  have HK := hide (fun W => awake_in W)
  have mixed : Try.prog.follows .mixedOrders = true := by kernel_rfl
  by_cases hlg : 300 < es.length ∨ 40 < lv.length
  · rw [decide_eq_true hlg] at HLg
    clear hlg hr hv hmx hmv
    go_enter Try.func5, Try.ntmps5
    go_wp2_with fail
    refine (unhide HLg).mono ?_
    rintro e W1 ⟨rfl, rfl⟩
    go_wp2_with fail
    refine (unhide HK _).mono ?_
    rintro e W2 ⟨rfl, hb2⟩
    have Hb2 := hide hb2
    clear hb2 HK HLg
    go_wp2
    go_ret
    exact ⟨rfl, unhide Hb2⟩
  · rw [decide_eq_false hlg] at HLg
    have hl3 : es.length ≤ 300 := by omega
    have hl4 : lv.length ≤ 40 := by omega
    have HWn := hide (Sk.Windows_in w _ _ es lv frm to hr hv (by omega) (by omega) ht2)
    have HFt := hide (fun (W : World) (hb : Hid (Below w.heap.size w W)) (s t : Int) => fitB_in W _ _ es lv s t (hr.below (unhide hb)) (hv.below (unhide hb)) (by omega) (by omega))
    have Hv := hide hv
    obtain ⟨n, hn⟩ : ∃ n, es.length = n := ⟨_, rfl⟩
    obtain ⟨m, hm⟩ : ∃ m, lv.length = m := ⟨_, rfl⟩
    have Hm := hide hm
    rw [hn, hm] at HWn HFt HLg ⊢
    rw [hn] at hl3
    rw [hm] at hl4 Hv
    clear hlg hmx hmv hn hm hr hv
    have hmax : max 0 frm = max frm 0 := by omega
    go_enter Try.func5, Try.ntmps5
    go_wp2_with fail
    refine (unhide HLg).mono ?_
    rintro e Wl ⟨he, hWl⟩
    subst he
    rw [hWl]
    clear hWl
    go_wp2_with fail
    refine (unhide HWn).mono ?_
    rintro e W1 ⟨v, l, rfl, ho, hw, hll, hb1⟩
    obtain ⟨av, cv, rfl⟩ := OwW.form ho
    have Ho := hide ho.row
    have Hw := hide hw
    have Hb1 := hide hb1
    obtain ⟨k, hk⟩ : ∃ k, l.length = k := ⟨_, rfl⟩
    have Hk := hide hk
    rw [hk] at Ho ⊢
    rw [hk] at hll
    have HFt1 := hide (fun (W : World) (hb : Hid (Below W1.heap.size W1 W)) (s t : Int) => unhide HFt W (hide (bnext hb1 (unhide hb))) s t)
    clear ho hw hb1 HWn HLg hk HFt
    go_wp2
    go_loopw [10, 11] (fun tv iv wr => ∃ i : Nat, i ≤ k ∧ tv = .int .i64 (endW (max frm 0) (l.take i)) ∧ iv = .int .i64 (i : Nat) ∧ Hid (Below W1.heap.size W1 wr)) (fun _ iv _ => k - (RowKit.intOf iv).toNat)
    case atStart => exact ⟨0, Nat.zero_le _, by first | rfl | (rw [hmax]; rfl), rfl, hide (Below.refl _ _)⟩
    case round =>
      obtain ⟨i, hi, rfl, rfl, HI⟩ := hrel
      by_cases hlt : i < k
      · have hlt' : (i : Int) < (k : Int) := by omega
        obtain ⟨⟨x1, x2⟩, hx⟩ : ∃ x, l[i]? = some x := ⟨_, List.getElem?_eq_getElem (by rw [unhide Hk]; exact hlt)⟩
        obtain ⟨h1, h2, h3, h4, h5⟩ := winP_at (unhide Hw) hx
        have hge := winP_ge (unhide Hw) hx
        have hnx := endW_take (f := max frm 0) hx
        simp only [] at h1 h2 h3 h4 h5 hnx hge
        have hro := (unhide Ho).below (unhide HI)
        obtain ⟨b, off, rfl, _, k0, k1⟩ := RG.at hro hx
        simp only [] at k0 k1
        rw [← h1]
        have hx2 : decide (x2 ≤ x1) = false := decide_eq_false (by omega)
        have hx3 : decide (to < x2) = false := decide_eq_false (by omega)
        have hx4 : decide (x2 > to) = false := decide_eq_false (by omega)
        have H1 := hide h1
        have Hnx := hide hnx
        have f1 := fitB_yes h4
        have f2 := fitB_no h5
        have f3 : fitB es lv x1 (IntKind.i64.wrap (x2 - 1)) = false := by
          rw [show IntKind.i64.wrap (x2 - 1) = x2 - 1 by simp [IntKind.wrap, IntKind.bits, IntKind.signed, IntKind.min]; omega]
          exact f2
        have hft := unhide HFt1
        have HF := hide (fun W hb t => hft W hb x1 t)
        clear hft
        have hx9 : -9223372036854775808 ≤ x2 - 1 := by omega
        clear h1 h4 h5 hnx hro hx
        have Hbd : Hid (Below W1.heap.size W1 wr.drew) := hide (unhide HI).drew
        go_wp2
        go_region_held3 (fun w' => w'.cell? ⟨b, off + i * 2, none⟩ = some (.int .i64 x1) ∧ w'.cell? ⟨b, off + i * 2 + 1, none⟩ = some (.int .i64 x2) ∧ Hid (Below W1.heap.size W1 w'))
          (first
            | (exact ⟨k0, k1, Hbd⟩)
            | (go_split_ands
               exact ⟨cell_below (by assumption) hbw, cell_below (by assumption) hbw, hide (bnext (unhide (by assumption)) hbw)⟩)
            | go_keep)
          (first
            | (go_split_ands; go_at_call 15; refine (unhide HF _ (by assumption) _).mono ?_; rintro e' w' ⟨rfl, hbw⟩; first | rw [f1] | rw [f3] | rw [f2]))
        go_split_ands
        have g1 := cell_below (W := _) (by assumption : World.cell? _ ⟨b, off + i * 2 + 1, none⟩ = some (.int .i64 x2)) hbw
        have hbn := hide (bnext (unhide (by assumption : Hid (Below W1.heap.size W1 _))) hbw)
        clear f1 f2 f3 HF
        go_wp2
        go_roundw
        case rel => exact ⟨i + 1, by omega, by rw [unhide Hnx], by go_num, hbn⟩
        case measure => show k - ((i : Int) + 1).toNat < k - ((i : Nat) : Int).toNat; omega
      · have hlt' : ¬ (i : Int) < (k : Int) := by omega
        obtain rfl : i = k := by omega
        rw [List.take_of_length_le (by rw [unhide Hk]; exact Nat.le_refl _)]
        go_wp2
        go_loopw [12, 13] (fun tv jv wr => ∃ (f : Bool) (j : Nat), 1 ≤ j ∧ tv = .bool f ∧ jv = .int .i64 (j : Nat) ∧ Hid (TwI lv f j ∧ Below W1.heap.size W1 wr)) (fun _ jv _ => m + 1 - (RowKit.intOf jv).toNat)
        case atStart => exact ⟨_, 1, by omega, rfl, rfl, hide ⟨twI_one lv, unhide HI⟩⟩
        case round =>
          obtain ⟨f, j, hj, rfl, rfl, HJ⟩ := hrel
          clear HI
          by_cases hjm : j < m
          · have hjm' : (j : Int) < (m : Int) := by omega
            have hm0 : (0 : Int) < (m : Int) := by omega
            have hjl : j < lv.length := by rw [unhide Hm]; exact hjm
            obtain ⟨x, hx⟩ : ∃ x, lv[0]? = some x := ⟨_, List.getElem?_eq_getElem (by omega)⟩
            obtain ⟨y, hy⟩ : ∃ y, lv[j]? = some y := ⟨_, List.getElem?_eq_getElem hjl⟩
            have hrv := (unhide Hv).below (bnext (unhide Hb1) (unhide HJ).2)
            obtain ⟨b, off, rfl, _, k0⟩ := RN.at hrv hx
            obtain ⟨b', off', e, _, k1⟩ := RN.at hrv hy
            simp only [Option.some.injEq, Addr.mk.injEq, and_true] at e
            obtain ⟨rfl, rfl⟩ := e
            rw [Nat.add_zero] at k0
            have hff := (unhide HJ).1
            have Hbj := hide (unhide HJ).2
            cases f with
            | true =>
              have Hres := hide (twI_keep hy hx hff)
              clear hff hx hy hrv HJ
              go_wp2
              go_quiet (fail)
              have hb2 := hide (bdrew (unhide Hbj) nq)
              go_wp2
              go_roundw
              case rel => exact ⟨true, j + 1, by omega, rfl, by go_num, hide ⟨unhide Hres, unhide hb2⟩⟩
              case measure => show m + 1 - ((j : Int) + 1).toNat < m + 1 - ((j : Nat) : Int).toNat; omega
            | false =>
              by_cases e : y = x
              · subst e
                have Hres := hide (twI_same hy hx hff)
                clear hff hx hy hrv HJ
                go_wp2
                go_quiet (fail)
                have hb2 := hide (bdrew (unhide Hbj) nq)
                go_wp2
                go_roundw
                case rel => exact ⟨false, j + 1, by omega, rfl, by go_num, hide ⟨unhide Hres, unhide hb2⟩⟩
                case measure => show m + 1 - ((j : Int) + 1).toNat < m + 1 - ((j : Nat) : Int).toNat; omega
              · have e' : (y != x) = true := by rw [bne_iff_ne]; exact e
                have Hres := hide (twI_new (f := false) hy hx e)
                clear hff hx hy hrv HJ
                go_wp2
                go_quiet (fail)
                have hb2 := hide (bdrew (unhide Hbj) nq)
                go_wp2
                go_roundw
                case rel => exact ⟨true, j + 1, by omega, rfl, by go_num, hide ⟨unhide Hres, unhide hb2⟩⟩
                case measure => show m + 1 - ((j : Int) + 1).toNat < m + 1 - ((j : Nat) : Int).toNat; omega
          · have hjm' : ¬ (j : Int) < (m : Int) := by omega
            have hff := twI_all (unhide HJ).1 (by rw [unhide Hm]; omega)
            have Hbj := hide (unhide HJ).2
            clear HJ
            cases f with
            | true =>
              have hbe := fitB_no (winP_behind (unhide Hw) (hff.1 rfl))
              have HF := hide (unhide HFt1 wr Hbj (endW (max frm 0) l) to)
              rw [hbe] at HF
              generalize endW (max frm 0) l = at9 at *
              clear hff hbe
              go_wp2_with fail
              refine (unhide HF).mono ?_
              rintro e W5 ⟨rfl, hb5⟩
              have Hb5 := hide (bnext (bnext (unhide Hb1) (unhide Hbj)) hb5)
              clear hb5 HF
              go_wp2_with fail
              refine (unhide HK _).mono ?_
              rintro e W6 ⟨rfl, hb6⟩
              have Hb6 := hide (bnext (unhide Hb5) hb6)
              clear hb6
              go_wp2
              go_ret
              exact ⟨by simp, unhide Hb6⟩
            | false =>
              have hl0 := winP_none (unhide Hw) (fun c => by have := hff.2 c; cases this)
              obtain rfl : i = 0 := by rw [← unhide Hk, hl0]; rfl
              generalize endW (max frm 0) l = at9 at *
              clear hff hl0
              go_wp2_with fail
              refine (unhide HK _).mono ?_
              rintro e W6 ⟨rfl, hb6⟩
              have Hb6 := hide (bnext (bnext (unhide Hb1) (unhide Hbj)) hb6)
              clear hb6
              go_wp2
              go_ret
              exact ⟨by simp, unhide Hb6⟩

theorem own : ownKnob Try.prog.godebug = none := by kernel_rfl
theorem laidOut2 : laidOutB Try.prog = true := by kernel_rfl

set_option maxRecDepth 100000 in
theorem lifted (os : Os) (started : os.Started) (H : Type) (enc : TypeId × Value → H) :
    ReturnsInHanded {} Try.checked os 5 .any (Rows.fairStandsSpec.pre6 enc Try.prog Try.f5 Rows.fairStandsRow.domain false) (Rows.fairStandsSpec.post enc Try.prog Try.f5 false true false false) := by
  refine returnsInHanded_of_change (C := Try.checked) own started (by kernel_rfl) Try.func5
    (ChangeSpec.witness6 (enc := enc) (C := Try.checked) false ⟨#[], #[.slice none 0 0, .slice none 0 0, .int .i64 0, .int .i64 0], []⟩ 8 (by kernel_rfl) (by kernel_rfl) (by kernel_rfl) (by kernel_rfl)) ?_
  intro W base args ds gs before hval0 hW hcnd _
  have hval : ∀ (j : Nat) t v, Try.f5.params[j]? = some t → args[j]? = some v → Value.okWide Try.prog W .any base t v := hval0
  have hW' := hW
  obtain ⟨p, q, hA0, hV, rfl, hfz, hnd⟩ := hW
  have hA : DataW.TrodAll enc Try.prog W 0 (fun _ => true) true Try.f5.params.toList args.toList ds p := hA0
  rw [Try.params5] at hA hval
  obtain ⟨v0, vs0, d0, ds0, p0, q0, hargs, rfl, rfl, h0, r0⟩ := trodAll_cons hA
  obtain ⟨v1, vs1, d1, ds1, p1, q1, rfl, rfl, rfl, h1, r1⟩ := trodAll_cons r0
  obtain ⟨v2, vs2, d2, ds2, p2, q2, rfl, rfl, rfl, h2, r2⟩ := trodAll_cons r1
  obtain ⟨v3, vs3, d3, ds3, p3, q3, rfl, rfl, rfl, h3, r3⟩ := trodAll_cons r2
  obtain ⟨rfl, rfl, rfl⟩ := trodAll_nil r3
  obtain rfl : args = #[v0, v1, v2, v3] := by cases args; simp_all
  obtain ⟨rfl, rfl⟩ := trodVars_none hV
  obtain ⟨a0, len0, cap0, rfl⟩ := okWide_slice Try.underlying22 (hval 0 22 v0 rfl rfl)
  have k0 := h0
  have lt0 : ∀ x ∈ p0, x.block < W.heap.size := by obtain ⟨m, hm⟩ := k0; exact DataW.trod_lt m _ _ _ hm
  obtain ⟨z0, w0⟩ : ∃ l : List Ev, RV W (.slice a0 len0 cap0) l ∧ l.length = len0 ∧ len0 ≤ maxLen ∧ ∀ e ∈ l, EvW e := by
    obtain ⟨fuel, hf⟩ := h0
    simp only [Value.cells] at hf
    exact open_events hf
  obtain ⟨a1, len1, cap1, rfl⟩ := okWide_slice Try.underlying23 (hval 1 23 v1 rfl rfl)
  have k1 := h1
  have lt1 : ∀ x ∈ p1, x.block < W.heap.size := by obtain ⟨m, hm⟩ := k1; exact DataW.trod_lt m _ _ _ hm
  obtain ⟨z1, w1⟩ : ∃ l : List Int, RN W (.slice a1 len1 cap1) l ∧ l.length = len1 ∧ len1 ≤ maxLen ∧ ∀ e ∈ l, in64 e := by
    obtain ⟨fuel, hf⟩ := h1
    simp only [Value.cells] at hf
    exact open_nums hf
  obtain ⟨a2, rfl, rfl, rfl, w2⟩ := open_int Try.underlying3 (hval 2 3 v2 rfl rfl) h2
  obtain ⟨a3, rfl, rfl, rfl, w3⟩ := open_int Try.underlying3 (hval 3 3 v3 rfl rfl) h3
  clear hA0 hval0
  refine (walk a0 len0 cap0 z0 a1 len1 cap1 z1 a2 a3 W w0 w1 w2 w3).mono fun e W' ⟨he, bel⟩ => ?_
  subst he
  exact ⟨_, rfl, _, _, _, [], _, [], hW', trodAll_mk1 (shut_bool Try.underlying4 _), (trodAll_cons_mk (Below.trod laidOut2 (by kernel_rfl) (of_decide_eq_true (by kernel_rfl)) k0 bel lt0) (trodAll_cons_mk (Below.trod laidOut2 (by kernel_rfl) (of_decide_eq_true (by kernel_rfl)) k1 bel lt1) (trodAll_cons_mk (shut_int Try.underlying3 w2) (trodAll_cons_mk (shut_int Try.underlying3 w3) trodAll_mk0)))), rfl, bel.frame _, fun h => by cases h⟩

theorem over : Rows.fairStandsRow.holds Try.pinned (OpenSpec.ofChange Rows.fairStandsSpec) :=
  OpenClaim.holds_of_wide 5 Try.f5 rfl rfl rfl rfl rfl rfl rfl ⟨rfl, rfl, rfl, rfl, rfl⟩ rfl rfl rfl rfl rfl (by kernel_rfl) Try.func5 (by kernel_rfl)
    (of_decide_eq_true (by kernel_rfl)) (by unfold Func.isWrapper; first | (rw [if_pos (by decide +kernel)]; kernel_rfl) | (rw [if_neg (by decide +kernel)]; exact ⟨rfl, rfl⟩))
    (fun os started H enc _ => lifted os started H enc)

end LFairStands

theorem fairStands_holds : Rows.FairStandsSaid := LFairStands.over

end Go.Proofs.Ytmglnaldpcmakaa
