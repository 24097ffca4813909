/-
  Chapter 1's law GlyphCuts returns true for every text and every number, and leaves its arguments as they were; no condition.
-/
import Derived.Test.YtnejgbjidonpiaaRows
import Derived.WalkKit
import Derived.ProofKit
import Derived.OpenShut
import Derived.ShutString
import Derived.ChangeOld
import Derived.Below
import Derived.Test.YtnejgbjidonpiaaKnown
import Derived.Test.YtnejgbjidonpiaaRefCut
set_option linter.unusedVariables false
set_option linter.unusedSimpArgs false
namespace Go.Proofs.Ytnejgbjidonpiaa
namespace LGlyphCuts
open Go.ChangeShapes Go.WideShapes Go.ChangeAt Go.RowKit Go.Lib
open Go.ChangeMaps (open_string shut_string)

set_option maxRecDepth 100000 in
set_option maxHeartbeats 2000000 in
theorem walk (a0 : ByteArray) (a1 : Int) (w0 : a0.size ≤ maxLen) (w1 : (Lit.int .i64 a1).wf = true) (w : World) :
    Calls Try.prog 4 #[.string a0, .int .i64 a1] w fun e w' => e = .returned (.bool true) ∧ Below w.heap.size w w' := by
  obtain ⟨hb1, hb2⟩ := bounds_i64 w1
  unfold maxLen at w0
  by_cases hbig : 20000 < a0.size
  · go_enter Try.func4, Try.ntmps4
    go_wp2_with (go_at_call 9; refine (known_in _).mono ?_; rintro e w' ⟨rfl, hB⟩)
    go_ret
    exact ⟨rfl, hB⟩
  · have hlen := allL_length a0
    have hl2 := hide (runeL_length a0)
    have q1 : ((cutL a0 a1).toList == (cutL a0 a1).toList) = true := by simp
    have q2 : ((cutR a0 a1).toList == (cutR a0 a1).toList) = true := by simp
    have q3 : (firstBad a0 (allL a0) != firstBad a0 (allL a0)) = false := by simp
    have q4 : (((allL a0).length : Int) != ((allL a0).length : Int)) = false := by simp
    have q5 : ((runesBytes (runeL a0)).toList == (runesBytes (runeL a0)).toList) = true := by simp
    go_enter Try.func4, Try.ntmps4
    go_wp2_with fail
    refine (cut_in _ _ (by omega) hb1 hb2 _).mono ?_
    rintro e W1 ⟨rfl, hB1⟩
    go_wp2_with fail
    refine (refCut_in _ _ (by omega) _).mono ?_
    rintro e W2 ⟨rfl, hB2⟩
    go_wp2_with fail
    refine (badAt_in _ (by omega) _).mono ?_
    rintro e W3 ⟨rfl, hB3⟩
    go_wp2_with fail
    refine (refBadAt_in _ (by omega) _).mono ?_
    rintro e W4 ⟨rfl, hB4⟩
    go_wp2_with fail
    refine (count_in _ (by omega) _).mono ?_
    rintro e W5 ⟨rfl, hB5⟩
    go_wp2_with fail
    refine (refCount_in _ (by omega) _).mono ?_
    rintro e W6 ⟨rfl, hB6⟩
    go_wp2_with fail
    refine (mend_in _ (by omega) _).mono ?_
    rintro e W7 ⟨rfl, hB7⟩
    go_wp2_with fail
    refine (refMend_in _ (by omega) _).mono ?_
    rintro e W8 ⟨rfl, hB8⟩
    go_wp2_with fail
    refine (runes_in _ (by omega) _).mono ?_
    rintro e W9 ⟨v9, rfl, ho9, hB9, c9, hv9⟩
    have hr9 := RS.of_owns ho9
    clear ho9 hv9
    go_wp2_with fail
    refine (refRunes_in _ (by omega) _).mono ?_
    rintro e W10 ⟨v10, rfl, ho10, hB10⟩
    have hr10 := RS.of_owns ho10
    have hr9' := RS.below hB10 hr9
    clear ho10 hr9
    have hB : Below w.heap.size w W10 := by
      have s1 := hB1.size
      have s2 := hB2.size
      have s3 := hB3.size
      have s4 := hB4.size
      have s5 := hB5.size
      have s6 := hB6.size
      have s7 := hB7.size
      have s8 := hB8.size
      have s9 := hB9.size
      exact ((((((((((hB1.trans (hB2.mono (by omega))).trans (hB3.mono (by omega))).trans (hB4.mono (by omega))).trans (hB5.mono (by omega))).trans (hB6.mono (by omega))).trans (hB7.mono (by omega))).trans (hB8.mono (by omega))).trans (hB9.mono (by omega))).trans (hB10.mono (by omega))))
    clear hB1 hB2 hB3 hB4 hB5 hB6 hB7 hB8 hB9 hB10
    go_wp2_with fail
    refine (same_in _ _ _ _ _ hr9' hr10 (by rw [unhide hl2]; omega) (by rw [unhide hl2]; omega)).mono ?_
    rintro e W11 ⟨rfl, nd, rfl⟩
    rw [show decide (runeL a0 = runeL a0) = true from by simp]
    go_wp2_with fail
    refine (known_in _).mono ?_
    rintro e W12 ⟨rfl, hB12⟩
    go_wp2
    go_ret
    exact ⟨rfl, hB.trans ((⟨hB12.os, hB12.tape, hB12.output, hB12.size, hB12.block⟩ : Below W10.heap.size W10 W12).mono hB.size)⟩

theorem own : ownKnob Try.prog.godebug = none := by kernel_rfl

set_option maxRecDepth 100000 in
theorem lifted (os : Os) (started : os.Started) (H : Type) (enc : TypeId × Value → H) :
    ReturnsInHanded {} Try.checked os 4 .any (Rows.glyphCutsSpec.pre6 enc Try.prog Try.f4 Rows.glyphCutsRow.domain false) (Rows.glyphCutsSpec.post enc Try.prog Try.f4 false true false false) := by
  refine returnsInHanded_of_change (C := Try.checked) own started (by kernel_rfl) Try.func4
    (ChangeSpec.witness6 (enc := enc) (C := Try.checked) false ⟨#[], #[.string ByteArray.empty, .int .i64 0], []⟩ 8 (by kernel_rfl) (by kernel_rfl) (by kernel_rfl) (by kernel_rfl)) ?_
  intro W base args ds gs before hval0 hW hcnd _
  have hval : ∀ (j : Nat) t v, Try.f4.params[j]? = some t → args[j]? = some v → Value.okWide Try.prog W .any base t v := hval0
  have hW' := hW
  obtain ⟨p, q, hA0, hV, rfl, hfz, hnd⟩ := hW
  have hA : DataW.TrodAll enc Try.prog W 0 (fun _ => true) true Try.f4.params.toList args.toList ds p := hA0
  rw [Try.params4] at hA hval
  obtain ⟨v0, vs0, d0, ds0, p0, q0, hargs, rfl, rfl, h0, r0⟩ := trodAll_cons hA
  obtain ⟨v1, vs1, d1, ds1, p1, q1, rfl, rfl, rfl, h1, r1⟩ := trodAll_cons r0
  obtain ⟨rfl, rfl, rfl⟩ := trodAll_nil r1
  obtain rfl : args = #[v0, v1] := by cases args; simp_all
  obtain ⟨rfl, rfl⟩ := trodVars_none hV
  obtain ⟨a0, rfl, rfl, rfl, w0⟩ := open_string Try.underlying9 (hval 0 9 v0 rfl rfl) h0
  obtain ⟨a1, rfl, rfl, rfl, w1⟩ := open_int Try.underlying3 (hval 1 3 v1 rfl rfl) h1
  clear hA0 hval0
  simp only [List.append_nil] at hW'
  refine (walk a0 a1 w0 w1 W).mono fun e W' ⟨he, bel⟩ => ?_
  subst he
  exact ⟨_, rfl, _, _, _, [], _, [], hW', trodAll_mk1 (shut_bool Try.underlying4 _), (trodAll_cons_mk (shut_string Try.underlying9 w0) (trodAll_cons_mk (shut_int Try.underlying3 w1) trodAll_mk0)), rfl, bel.frame _, fun h => by cases h⟩

theorem over : Rows.glyphCutsRow.holds Try.pinned (OpenSpec.ofChange Rows.glyphCutsSpec) :=
  OpenClaim.holds_of_wide 4 Try.f4 rfl rfl rfl rfl rfl rfl rfl ⟨rfl, rfl, rfl, rfl, rfl⟩ rfl rfl rfl rfl rfl (by kernel_rfl) Try.func4 (by kernel_rfl)
    (of_decide_eq_true (by kernel_rfl)) (by unfold Func.isWrapper; first | (rw [if_pos (by decide +kernel)]; kernel_rfl) | (rw [if_neg (by decide +kernel)]; exact ⟨rfl, rfl⟩))
    (fun os started H enc _ => lifted os started H enc)

end LGlyphCuts

theorem glyphCuts_holds : Rows.GlyphCutsSaid := LGlyphCuts.over

end Go.Proofs.Ytnejgbjidonpiaa
