/-
  Chapter 1's law GlyphDecodes returns true for every text and every number, and leaves its arguments as they were; no condition.
-/
import Derived.Test.YtnejgbjidonpiaaRows
import Derived.WalkKit
import Derived.ProofKit
import Derived.OpenShut
import Derived.ShutString
import Derived.Test.YtnejgbjidonpiaaKnown
import Derived.Test.YtnejgbjidonpiaaRefDec
set_option linter.unusedVariables false
set_option linter.unusedSimpArgs false
namespace Go.Proofs.Ytnejgbjidonpiaa
namespace LGlyphDecodes
open Go.ChangeShapes Go.WideShapes Go.ChangeAt Go.RowKit Go.Lib
open Go.ChangeMaps (open_string shut_string)

set_option maxRecDepth 100000 in
set_option maxHeartbeats 2000000 in
theorem walk (a0 : ByteArray) (a1 : Int) (w0 : a0.size ≤ maxLen) (w1 : (Lit.int .i64 a1).wf = true) (w : World) :
    Calls Try.prog 3 #[.string a0, .int .i64 a1] w fun e w' => e = .returned (.bool true) ∧ Below w.heap.size w w' := by
  have w0' := w0
  unfold maxLen at w0
  by_cases hbig : 20000 < a0.size
  · go_enter Try.func3, Try.ntmps3
    go_wp2_with (go_at_call 9; refine (known_in _).mono ?_; rintro e w' ⟨rfl, hB⟩)
    go_ret
    exact ⟨rfl, hB⟩
  · have hs : a0.size ≤ 140737488355328 := by omega
    go_enter Try.func3, Try.ntmps3
    go_wp2
    go_loopw [1, 5] (fun av kv wr => (∃ k : Nat, k ≤ 2 ∧ kv = .int .i64 k) ∧ (∃ a : Int, av = .int .i64 a) ∧ ∃ d, wr = w.drewN d) (fun _ kv _ => 2 - (RowKit.intOf kv).toNat)
    case atStart => exact ⟨⟨0, by omega, rfl⟩, ⟨a1, rfl⟩, 0, rfl⟩
    case round =>
      obtain ⟨⟨k, hk, rfl⟩, ⟨a, rfl⟩, d, rfl⟩ := hrel
      have q1 : (dR a0 a != dR a0 a) = false := by simp
      have q2 : (dN a0 a != dN a0 a) = false := by simp
      have q3 : (dK a0 a != dK a0 a) = false := by simp
      have q4 : (lR a0 a != lR a0 a) = false := by simp
      have q5 : (lN a0 a != lN a0 a) = false := by simp
      have q6 : (lK a0 a != lK a0 a) = false := by simp
      by_cases hlt : k < 2
      · by_cases ha : a < 1
        · go_wp2_with (first | (go_at_call 10; refine (decode_any _ _ _ w0').mono ?_; rintro e w' ⟨rfl, rfl⟩) | (go_at_call 11; refine (refDecode_any _ _ _ hs).mono ?_; rintro e w' ⟨rfl, n1, rfl⟩) | (go_at_call 12; refine (last_any _ _ _ w0').mono ?_; rintro e w' ⟨rfl, rfl⟩) | (go_at_call 13; refine (refLast_any _ _ _ hs).mono ?_; rintro e w' ⟨rfl, n2, rfl⟩) | (go_at_call 9; refine (known_in _).mono ?_; rintro e w' ⟨rfl, hB⟩))
          go_ret
          exact ⟨rfl, ⟨hB.os, hB.tape, hB.output, hB.size, hB.block⟩⟩
        · go_wp2_with (first | (go_at_call 10; refine (decode_any _ _ _ w0').mono ?_; rintro e w' ⟨rfl, rfl⟩) | (go_at_call 11; refine (refDecode_any _ _ _ hs).mono ?_; rintro e w' ⟨rfl, n1, rfl⟩) | (go_at_call 12; refine (last_any _ _ _ w0').mono ?_; rintro e w' ⟨rfl, rfl⟩) | (go_at_call 13; refine (refLast_any _ _ _ hs).mono ?_; rintro e w' ⟨rfl, n2, rfl⟩))
          go_roundw
          case rel => exact ⟨⟨k + 1, by omega, by go_num⟩, ⟨_, rfl⟩, _, rfl⟩
          case measure => simp [RowKit.intOf]; omega
      · go_wp2_with (go_at_call 9; refine (known_in _).mono ?_; rintro e w' ⟨rfl, hB⟩)
        go_ret
        exact ⟨rfl, ⟨hB.os, hB.tape, hB.output, hB.size, hB.block⟩⟩

theorem own : ownKnob Try.prog.godebug = none := by kernel_rfl

set_option maxRecDepth 100000 in
theorem lifted (os : Os) (started : os.Started) (H : Type) (enc : TypeId × Value → H) :
    ReturnsInHanded {} Try.checked os 3 .any (Rows.glyphDecodesSpec.pre6 enc Try.prog Try.f3 Rows.glyphDecodesRow.domain false) (Rows.glyphDecodesSpec.post enc Try.prog Try.f3 false true false false) := by
  refine returnsInHanded_of_change (C := Try.checked) own started (by kernel_rfl) Try.func3
    (ChangeSpec.witness6 (enc := enc) (C := Try.checked) false ⟨#[], #[.string ByteArray.empty, .int .i64 0], []⟩ 8 (by kernel_rfl) (by kernel_rfl) (by kernel_rfl) (by kernel_rfl)) ?_
  intro W base args ds gs before hval0 hW hcnd _
  have hval : ∀ (j : Nat) t v, Try.f3.params[j]? = some t → args[j]? = some v → Value.okWide Try.prog W .any base t v := hval0
  have hW' := hW
  obtain ⟨p, q, hA0, hV, rfl, hfz, hnd⟩ := hW
  have hA : DataW.TrodAll enc Try.prog W 0 (fun _ => true) true Try.f3.params.toList args.toList ds p := hA0
  rw [Try.params3] at hA hval
  obtain ⟨v0, vs0, d0, ds0, p0, q0, hargs, rfl, rfl, h0, r0⟩ := trodAll_cons hA
  obtain ⟨v1, vs1, d1, ds1, p1, q1, rfl, rfl, rfl, h1, r1⟩ := trodAll_cons r0
  obtain ⟨rfl, rfl, rfl⟩ := trodAll_nil r1
  obtain rfl : args = #[v0, v1] := by cases args; simp_all
  obtain ⟨rfl, rfl⟩ := trodVars_none hV
  obtain ⟨a0, rfl, rfl, rfl, w0⟩ := open_string Try.underlying9 (hval 0 9 v0 rfl rfl) h0
  obtain ⟨a1, rfl, rfl, rfl, w1⟩ := open_int Try.underlying3 (hval 1 3 v1 rfl rfl) h1
  clear hA0 hval0
  simp only [List.append_nil] at hW'
  refine (walk a0 a1 w0 w1 W).mono fun e W' ⟨he, bel⟩ => ?_
  subst he
  exact ⟨_, rfl, _, _, _, [], _, [], hW', trodAll_mk1 (shut_bool Try.underlying4 _), (trodAll_cons_mk (shut_string Try.underlying9 w0) (trodAll_cons_mk (shut_int Try.underlying3 w1) trodAll_mk0)), rfl, bel.frame _, fun h => by cases h⟩

theorem over : Rows.glyphDecodesRow.holds Try.pinned (OpenSpec.ofChange Rows.glyphDecodesSpec) :=
  OpenClaim.holds_of_wide 3 Try.f3 rfl rfl rfl rfl rfl rfl rfl ⟨rfl, rfl, rfl, rfl, rfl⟩ rfl rfl rfl rfl rfl (by kernel_rfl) Try.func3 (by kernel_rfl)
    (of_decide_eq_true (by kernel_rfl)) (by unfold Func.isWrapper; first | (rw [if_pos (by decide +kernel)]; kernel_rfl) | (rw [if_neg (by decide +kernel)]; exact ⟨rfl, rfl⟩))
    (fun os started H enc _ => lifted os started H enc)

end LGlyphDecodes

theorem glyphDecodes_holds : Rows.GlyphDecodesSaid := LGlyphDecodes.over

end Go.Proofs.Ytnejgbjidonpiaa
