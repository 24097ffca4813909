/-
  Chapter 14's law FrontNothing returns true for every script, and leaves its argument as it was; no condition.
-/
import Derived.Test.YtjiphechhfifgaaRows
import Derived.WalkKit
import Derived.ProofKit
import Derived.OpenShut
import Derived.ShutString
import Derived.ChangeOld
import Derived.Below
import Derived.Test.YtjiphechhfifgaaZXK
import Derived.Test.YtjiphechhfifgaaZQW
set_option linter.unusedVariables false
set_option linter.unusedSimpArgs false
namespace Go.Proofs.Ytjiphechhfifgaa
namespace LFrontNothing
open Go.ChangeShapes Go.WideShapes Go.ChangeAt Go.RowKit Go.Lib
open Go.ChangeMaps (open_string shut_string)

set_option maxRecDepth 100000 in
set_option maxHeartbeats 8000000 in
theorem walk (a0 : Option Addr) (len0 cap0 : Nat) (ss : List Stp) (w : World) (w0 : RS w (.slice a0 len0 cap0) ss ∧ ss.length = len0 ∧ len0 ≤ maxLen ∧ ∀ e ∈ ss, StW w e) :
    Calls Try.prog 5 #[.slice a0 len0 cap0] w fun e W => e = .returned (.bool true) ∧ Below w.heap.size w W := by
  obtain ⟨hr, hln, hmx, hst⟩ := w0
  unfold maxLen at hmx
  have HMu := hide (much_in a0 len0 cap0 ss w hr hln hst (by omega))
  have HK := hide (fun W => known_in W)
  have mixed : Try.prog.follows .mixedOrders = true := by kernel_rfl
  obtain ⟨MU, hMU⟩ : ∃ m, muchB ss = m := ⟨_, rfl⟩
  rw [hMU] at HMu
  cases MU with
  | true =>
    clear hMU hr hst
    go_enter Try.func5, Try.ntmps5
    go_wp2_with fail
    refine (unhide HMu).mono ?_
    rintro r W1 ⟨rfl, hb1⟩
    replace hb1 := hide hb1
    clear HMu
    go_wp2_with fail
    refine (unhide HK _).mono ?_
    rintro r W2 ⟨rfl, hb2⟩
    go_wp2
    go_ret
    exact ⟨rfl, bnext (unhide hb1) hb2⟩
  | false =>
    have hl0 := (much_small hMU).1
    rw [hln] at hl0
    have Hln := hide hln
    have Hr := hide hr
    have Hst := hide hst
    clear hMU hr hst hln
    go_enter Try.func5, Try.ntmps5
    go_wp2_with fail
    refine (unhide HMu).mono ?_
    rintro r W1 ⟨rfl, hb1⟩
    replace hb1 := hide hb1
    clear HMu
    go_wp2
    go_loopw [4] (fun iv wr => ∃ (i : Nat), iv = .int .i64 (i : Nat) ∧ i ≤ len0 ∧ Hid (Below w.heap.size w wr)) (fun iv _ => len0 - (Lib.intOf iv).toNat)
    case atStart => exact ⟨0, rfl, by omega, hb1⟩
    case round =>
      obtain ⟨i, rfl, hi, HB⟩ := hrel
      by_cases hlt : i < len0
      · have hlt' : (i : Int) < (len0 : Int) := by omega
        have hls : i < ss.length := by rw [unhide Hln]; exact hlt
        obtain ⟨s, hx⟩ : ∃ s, ss[i]? = some s := ⟨_, List.getElem?_eq_getElem hls⟩
        obtain ⟨b0, off, rfl, hb0, q0, q1, q2, q3⟩ := RS.at ((unhide Hr).below (unhide HB)) hx
        have hw := unhide Hst s (List.mem_of_getElem? hx)
        obtain ⟨av, cv, hv⟩ := hw.fv
        obtain ⟨am, cm, hm⟩ := hw.fm
        obtain ⟨kind, site, vl, ml, vv, vm⟩ := s
        simp only at hv hm q0 q1 q2 q3
        subst hv hm
        obtain ⟨X, hX⟩ : ∃ X, wr.alloc (.cells #[.int .i64 kind, .int .i64 site, .slice av vl.length cv, .slice am ml.length cm] 34) = X := ⟨_, rfl⟩
        have xX : Bx X wr.heap.size 34 #[.int .i64 kind, .int .i64 site, .slice av vl.length cv, .slice am ml.length cm] := by rw [← hX]; exact Bx.new wr _ _
        have BX := hide (bnext (unhide HB) (show Below wr.heap.size wr X by rw [← hX]; exact ballc (Below.refl _ _) _))
        have x1 := xX.cell 1 _ rfl
        have x2 := xX.cell 2 _ rfl
        have x3 := xX.cell 3 _ rfl
        have xl := xX.lt
        have hne := BelowOf.ne X
        have X1 : ∀ p : BelowOf X, p.w.cell? ⟨wr.heap.size, 1, none⟩ = some (.int .i64 site) := fun p => cell_below x1 p.h
        have X2 : ∀ p : BelowOf X, p.w.cell? ⟨wr.heap.size, 2, none⟩ = some (.slice av vl.length cv) := fun p => cell_below x2 p.h
        have X3 : ∀ p : BelowOf X, p.w.cell? ⟨wr.heap.size, 3, none⟩ = some (.slice am ml.length cm) := fun p => cell_below x3 p.h
        have HSe := hide (fun W => Settle_nil (.slice av vl.length cv) W)
        have HRo := hide (fun W => Row_nil site W)
        have HHe := hide (fun W => Hear_nil site av vl.length cv W)
        have HUs : Hid (∀ W : World, Calls Try.prog 18 #[.pointer none, .int .i64 site] W fun e W' => e = .returned (.slice none 0 0) ∧ Below W.heap.size W W') := fun W => (Usable_nil site W).mono fun e W' ⟨h1, h2⟩ => ⟨h1, by rw [h2]; exact Below.refl _ _⟩
        have HFr : Hid (∀ W : World, Calls Try.prog 19 #[.pointer none, .slice am ml.length cm, .int .i64 site, .slice av vl.length cv] W fun e W' => e = .returned (.slice none 0 0) ∧ Below W.heap.size W W') := fun W => (Frontier_nil _ site av _ cv W).mono fun e W' ⟨h1, h2⟩ => ⟨h1, by rw [h2]; exact Below.refl _ _⟩
        clear hx hw xX
        go_wp2_with fail
        refine (unhide HSe _).mono ?_
        rintro r W2 ⟨rfl, rfl⟩
        go_wp2_with fail
        refine (unhide HRo _).mono ?_
        rintro r W3 ⟨rfl, rfl⟩
        go_wp2_with fail
        refine wp_region_quiet_below mixed (by kernel_rfl) ?_
        repeat (any_goals (first | go_big_quiet_step ((first | (go_at_call 17; exact below_of (unhide HHe _)) | (go_at_call 18; exact below_of (unhide HUs _)) | (go_at_call 19; exact below_of (unhide HFr _)))) | quiet_step ((first | (go_at_call 17; exact below_of (unhide HHe _)) | (go_at_call 18; exact below_of (unhide HUs _)) | (go_at_call 19; exact below_of (unhide HFr _))))))
        all_goals (refine wpQuiet_nil ?_; intro _ hw'; obtain ⟨pp, hw''⟩ := hw'; subst hw'')
        have HE := hide (bnext (unhide BX) pp.h)
        clear X1 X2 X3 hne HSe HRo HHe HUs HFr
        go_wp2
        go_roundw
        case measure => show len0 - ((i : Int) + 1).toNat < len0 - ((i : Nat) : Int).toNat; omega
        case rel => exact ⟨i + 1, by go_num, by omega, HE⟩
      · have hlt' : ¬ (i : Int) < (len0 : Int) := by omega
        go_wp2_with fail
        refine (unhide HK _).mono ?_
        rintro r W2 ⟨rfl, hb2⟩
        go_wp2
        go_ret
        exact ⟨rfl, bnext (unhide HB) hb2⟩

theorem own : ownKnob Try.prog.godebug = none := by kernel_rfl
theorem laidOut2 : laidOutB Try.prog = true := by kernel_rfl

set_option maxRecDepth 100000 in
theorem lifted (os : Os) (started : os.Started) (H : Type) (enc : TypeId × Value → H) :
    ReturnsInHanded {} Try.checked os 5 .any (Rows.frontNothingSpec.pre6 enc Try.prog Try.f5 Rows.frontNothingRow.domain false) (Rows.frontNothingSpec.post enc Try.prog Try.f5 false true false false) := by
  refine returnsInHanded_of_change (C := Try.checked) own started (by kernel_rfl) Try.func5
    (ChangeSpec.witness6 (enc := enc) (C := Try.checked) false ⟨#[], #[.slice none 0 0], []⟩ 8 (by kernel_rfl) (by kernel_rfl) (by kernel_rfl) (by kernel_rfl)) ?_
  intro W base args ds gs before hval0 hW hcnd _
  have hval : ∀ (j : Nat) t v, Try.f5.params[j]? = some t → args[j]? = some v → Value.okWide Try.prog W .any base t v := hval0
  have hW' := hW
  obtain ⟨p, q, hA0, hV, rfl, hfz, hnd⟩ := hW
  have hA : DataW.TrodAll enc Try.prog W 0 (fun _ => true) true Try.f5.params.toList args.toList ds p := hA0
  rw [Try.params5] at hA hval
  obtain ⟨v0, vs0, d0, ds0, p0, q0, hargs, rfl, rfl, h0, r0⟩ := trodAll_cons hA
  obtain ⟨rfl, rfl, rfl⟩ := trodAll_nil r0
  obtain rfl : args = #[v0] := by cases args; simp_all
  obtain ⟨rfl, rfl⟩ := trodVars_none hV
  obtain ⟨a0, len0, cap0, rfl⟩ := okWide_slice Try.underlying22 (hval 0 22 v0 rfl rfl)
  have k0 := h0
  have lt0 : ∀ x ∈ p0, x.block < W.heap.size := by obtain ⟨m, hm⟩ := k0; exact DataW.trod_lt m _ _ _ hm
  obtain ⟨z0, w0⟩ : ∃ l : List Stp, RS W (.slice a0 len0 cap0) l ∧ l.length = len0 ∧ len0 ≤ maxLen ∧ ∀ e ∈ l, StW W e := by
    obtain ⟨fuel, hf⟩ := h0
    simp only [Value.cells] at hf
    exact open_steps hf
  clear hA0 hval0
  refine (walk a0 len0 cap0 z0 W w0).mono fun e W' ⟨he, bel⟩ => ?_
  subst he
  exact ⟨_, rfl, _, _, _, [], _, [], hW', trodAll_mk1 (shut_bool Try.underlying4 _), (trodAll_cons_mk (Below.trod laidOut2 (by kernel_rfl) (of_decide_eq_true (by kernel_rfl)) k0 bel lt0) trodAll_mk0), rfl, bel.frame _, fun h => by cases h⟩

theorem over : Rows.frontNothingRow.holds Try.pinned (OpenSpec.ofChange Rows.frontNothingSpec) :=
  OpenClaim.holds_of_wide 5 Try.f5 rfl rfl rfl rfl rfl rfl rfl ⟨rfl, rfl, rfl, rfl, rfl⟩ rfl rfl rfl rfl rfl (by kernel_rfl) Try.func5 (by kernel_rfl)
    (of_decide_eq_true (by kernel_rfl)) (by unfold Func.isWrapper; first | (rw [if_pos (by decide +kernel)]; kernel_rfl) | (rw [if_neg (by decide +kernel)]; exact ⟨rfl, rfl⟩))
    (fun os started H enc _ => lifted os started H enc)

end LFrontNothing

theorem frontNothing_holds : Rows.FrontNothingSaid := LFrontNothing.over

end Go.Proofs.Ytjiphechhfifgaa
