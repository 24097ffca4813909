/-
  Chapter 5's law DiffMakes returns true for every two texts, and leaves its arguments as they were; no condition.
-/
import Derived.Test.YtlbgfcbhpmhhpaaRows
import Derived.WalkKit
import Derived.ProofKit
import Derived.OpenShut
import Derived.ShutString
import Derived.ChangeOld
import Derived.Below
import Derived.Test.YtlbgfcbhpmhhpaaZF3
set_option linter.unusedVariables false
set_option linter.unusedSimpArgs false
namespace Go.Proofs.Ytlbgfcbhpmhhpaa
namespace LDiffMakes
open Go.ChangeShapes Go.WideShapes Go.ChangeAt Go.RowKit Go.Lib
open Go.ChangeMaps (open_string shut_string)

theorem mkRes_len (s t : ByteArray) (hs : s.size ≤ 8000) (ht : t.size ≤ 8000) : (mkRes s t).length ≤ 1000000000 := by
  unfold mkRes
  split
  · have h := mkL_count (runeL s) (runeL t)
    have a1 := runeL_length s
    have a2 := runeL_length t
    have a3 := allL_length s
    have a4 := allL_length t
    omega
  · simp

set_option maxRecDepth 100000 in
set_option maxHeartbeats 4000000 in
theorem walk (a b : ByteArray) (w0 : a.size ≤ maxLen) (w1 : b.size ≤ maxLen) (W : World) :
    Calls Try.prog 3 #[.string a, .string b] W fun e W' => e = .returned (.bool true) ∧ Below W.heap.size W W' := by
  unfold maxLen at w0 w1
  have hkn := fun W => hide (known_in W)
  by_cases h1 : 8000 < a.size
  · have d1 : decide ((8000 : Int) < ((a.size : Nat) : Int)) = true := by rw [decide_eq_true_iff]; omega
    go_enter Try.func3, Try.ntmps3
    go_wp2_with (go_at_call 9; refine (unhide (hkn _)).mono ?_; rintro e w' ⟨rfl, hB⟩)
    go_ret
    exact ⟨rfl, hB⟩
  · have d1 : decide ((8000 : Int) < ((a.size : Nat) : Int)) = false := by rw [decide_eq_false_iff_not]; omega
    by_cases h2 : 8000 < b.size
    · have d2 : decide ((8000 : Int) < ((b.size : Nat) : Int)) = true := by rw [decide_eq_true_iff]; omega
      go_enter Try.func3, Try.ntmps3
      go_wp2_with (go_at_call 9; refine (unhide (hkn _)).mono ?_; rintro e w' ⟨rfl, hB⟩)
      go_ret
      exact ⟨rfl, hB⟩
    · have d2 : decide ((8000 : Int) < ((b.size : Nat) : Int)) = false := by rw [decide_eq_false_iff_not]; omega
      have n1 := fun W => hide (make_in a b (by omega) (by omega) W)
      have n2 := fun W => hide (refMake_in a b (by omega) (by omega) W)
      have hl := mkRes_len a b (by omega) (by omega)
      have hee : ((mkErr a b) == (mkErr a b)) = true := by simp
      generalize mkErr a b = E at *
      generalize mkRes a b = L at *
      go_enter Try.func3, Try.ntmps3
      go_wp2_with fail
      refine (unhide (n1 _)).mono ?_
      rintro e W1 ⟨v1, rfl, ho1, hB1⟩
      have R1 := hide (RE.of_owns ho1)
      clear ho1
      go_wp2_with fail
      refine (unhide (n2 _)).mono ?_
      rintro e W2 ⟨v2, rfl, r2, hB2⟩
      have R2 := hide r2
      replace R1 := hide ((unhide R1).below hB2)
      have hB := bnext hB1 hB2
      clear hB1 hB2 r2 n1 n2
      go_wp2_with fail
      refine (eqE_in L L v1 v2 _ (unhide R1) (unhide R2) hl hl).mono ?_
      rintro e W3 ⟨rfl, n3, rfl⟩
      rw [show decide (L = L) = true by simp]
      have hB3 := bdrew hB n3
      go_wp2_with fail
      refine (unhide (hkn _)).mono ?_
      rintro e W4 ⟨rfl, hB4⟩
      go_wp2
      go_ret
      exact ⟨rfl, bnext hB3 hB4⟩

theorem own : ownKnob Try.prog.godebug = none := by kernel_rfl

set_option maxRecDepth 100000 in
theorem lifted (os : Os) (started : os.Started) (H : Type) (enc : TypeId × Value → H) :
    ReturnsInHanded {} Try.checked os 3 .any (Rows.diffMakesSpec.pre6 enc Try.prog Try.f3 Rows.diffMakesRow.domain false) (Rows.diffMakesSpec.post enc Try.prog Try.f3 false true false false) := by
  refine returnsInHanded_of_change (C := Try.checked) own started (by kernel_rfl) Try.func3
    (ChangeSpec.witness6 (enc := enc) (C := Try.checked) false ⟨#[], #[.string ByteArray.empty, .string ByteArray.empty], []⟩ 8 (by kernel_rfl) (by kernel_rfl) (by kernel_rfl) (by kernel_rfl)) ?_
  intro W base args ds gs before hval0 hW hcnd _
  have hval : ∀ (j : Nat) t v, Try.f3.params[j]? = some t → args[j]? = some v → Value.okWide Try.prog W .any base t v := hval0
  have hW' := hW
  obtain ⟨p, q, hA0, hV, rfl, hfz, hnd⟩ := hW
  have hA : DataW.TrodAll enc Try.prog W 0 (fun _ => true) true Try.f3.params.toList args.toList ds p := hA0
  rw [Try.params3] at hA hval
  obtain ⟨v0, vs0, d0, ds0, p0, q0, hargs, rfl, rfl, h0, r0⟩ := trodAll_cons hA
  obtain ⟨v1, vs1, d1, ds1, p1, q1, rfl, rfl, rfl, h1, r1⟩ := trodAll_cons r0
  obtain ⟨rfl, rfl, rfl⟩ := trodAll_nil r1
  obtain rfl : args = #[v0, v1] := by cases args; simp_all
  obtain ⟨rfl, rfl⟩ := trodVars_none hV
  obtain ⟨a0, rfl, rfl, rfl, w0⟩ := open_string Try.underlying9 (hval 0 9 v0 rfl rfl) h0
  obtain ⟨a1, rfl, rfl, rfl, w1⟩ := open_string Try.underlying9 (hval 1 9 v1 rfl rfl) h1
  clear hA0 hval0
  simp only [List.append_nil] at hW'
  refine (walk a0 a1 w0 w1 W).mono fun e W' ⟨he, bel⟩ => ?_
  subst he
  exact ⟨_, rfl, _, _, _, [], _, [], hW', trodAll_mk1 (shut_bool Try.underlying4 _), (trodAll_cons_mk (shut_string Try.underlying9 w0) (trodAll_cons_mk (shut_string Try.underlying9 w1) trodAll_mk0)), rfl, bel.frame _, fun h => by cases h⟩

theorem over : Rows.diffMakesRow.holds Try.pinned (OpenSpec.ofChange Rows.diffMakesSpec) :=
  OpenClaim.holds_of_wide 3 Try.f3 rfl rfl rfl rfl rfl rfl rfl ⟨rfl, rfl, rfl, rfl, rfl⟩ rfl rfl rfl rfl rfl (by kernel_rfl) Try.func3 (by kernel_rfl)
    (of_decide_eq_true (by kernel_rfl)) (by unfold Func.isWrapper; first | (rw [if_pos (by decide +kernel)]; kernel_rfl) | (rw [if_neg (by decide +kernel)]; exact ⟨rfl, rfl⟩))
    (fun os started H enc _ => lifted os started H enc)

end LDiffMakes

theorem diffMakes_holds : Rows.DiffMakesSaid := LDiffMakes.over

end Go.Proofs.Ytlbgfcbhpmhhpaa
