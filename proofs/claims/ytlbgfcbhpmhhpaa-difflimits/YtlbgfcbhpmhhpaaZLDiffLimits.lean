/-
  Chapter 5's law DiffLimits returns true for every two numbers and either width, and leaves its arguments as they were; no condition.
-/
import Derived.Test.YtlbgfcbhpmhhpaaRows
import Derived.WalkKit
import Derived.ProofKit
import Derived.OpenShut
import Derived.ShutString
import Derived.ChangeOld
import Derived.Below
import Derived.Test.YtlbgfcbhpmhhpaaZDQ
set_option linter.unusedVariables false
set_option linter.unusedSimpArgs false
namespace Go.Proofs.Ytlbgfcbhpmhhpaa
namespace LDiffLimits
open Go.ChangeShapes Go.WideShapes Go.ChangeAt Go.RowKit Go.Lib
open Go.ChangeMaps (open_string shut_string)

theorem r98 : runesBytes [98] = ⟨#[98]⟩ := by decide +kernel

set_option maxRecDepth 100000 in
set_option maxHeartbeats 4000000 in
theorem inner (N M : Nat) (wide : Bool) (c : Int) (s : ByteArray) (hsE : (bif wide then (⟨#[240, 157, 132, 158]⟩ : ByteArray) else ⟨#[97]⟩) = s) (hc : runesBytes [c] = s) (hf : (fixN c : Int) = c) (hcd : c ≠ 98) (h1 : 397 ≤ N) (h2 : N ≤ 403) (h3 : M ≤ 403) (W : World) :
    Calls Try.prog 4 #[.int .i64 (N : Nat), .int .i64 (M : Nat), .bool wide] W fun e W' => e = .returned (.bool true) ∧ Below W.heap.size W W' := by
  have d1 : decide ((N : Int) < 397) = false := by rw [decide_eq_false_iff_not]; omega
  have d2 : decide ((403 : Int) < (N : Int)) = false := by rw [decide_eq_false_iff_not]; omega
  have d3 : decide ((M : Int) < 0) = false := by rw [decide_eq_false_iff_not]; omega
  have d4 : decide ((403 : Int) < (M : Int)) = false := by rw [decide_eq_false_iff_not]; omega
  have hss : s.size ≤ 4 := by rw [← hc]; exact runesBytes_size [c]
  have Hc := hide hc
  have Hf := hide hf
  have Hcd := hide hcd
  have e0 : repB 0 c = ⟨#[]⟩ := by rfl
  have e1 : repB 0 98 = ⟨#[]⟩ := by rfl
  have E0 := hide e0
  have E1 := hide e1
  clear hc hf hcd e0 e1
  cases wide
  all_goals
    simp only [cond_true, cond_false] at hsE
    go_enter Try.func4, Try.ntmps4
    go_wp2_with fail
    rw [hsE]
    clear hsE d1 d2 d3 d4
    go_loopw [8, 10] (fun av iv wr => ∃ i : Nat, i ≤ N ∧ iv = .int .i64 (i : Nat) ∧ av = .string (repB i c) ∧ wr = W) (fun _ iv _ => N - (RowKit.intOf iv).toNat)
    case atStart => exact ⟨0, by omega, rfl, by rw [unhide E0], rfl⟩
    case round =>
      obtain ⟨i, hi, rfl, rfl, rfl⟩ := hrel
      by_cases hlt : i < N
      · have hz := repB_size i c
        have hrs := repB_succ i c s (unhide Hc)
        obtain ⟨A, hA⟩ : ∃ A, repB i c = A := ⟨_, rfl⟩
        rw [hA] at hz hrs ⊢
        have Hrs := hide hrs
        clear hrs hA
        go_wp2
        go_roundw
        case rel => exact ⟨i + 1, by omega, by go_num, by rw [unhide Hrs], by trivial⟩
        case measure => simp [RowKit.intOf]; omega
      · obtain rfl : i = N := by omega
        go_wp2_with fail
        go_loopw [9, 11] (fun av iv wr' => ∃ j : Nat, j ≤ M ∧ iv = .int .i64 (j : Nat) ∧ av = .string (repB j 98) ∧ wr' = wr) (fun _ iv _ => M - (RowKit.intOf iv).toNat)
        case atStart => exact ⟨0, by omega, rfl, by rw [unhide E1], rfl⟩
        case round =>
          obtain ⟨j, hj, rfl, rfl, rfl⟩ := hrel
          by_cases hlt : j < M
          · have hz := repB_size j 98
            have hrs := repB_succ j 98 ⟨#[98]⟩ r98
            obtain ⟨A, hA⟩ : ∃ A, repB j 98 = A := ⟨_, rfl⟩
            rw [hA] at hz hrs ⊢
            have Hrs := hide hrs
            clear hrs hA
            go_wp2
            go_roundw
            case rel => exact ⟨j + 1, by omega, by go_num, by rw [unhide Hrs], by trivial⟩
            case measure => simp [RowKit.intOf]; omega
          · obtain rfl : j = M := by omega
            have z1 := repB_size i c
            have z2 := repB_size j 98
            have hm1 := fun W => hide (make_in (repB i c) (repB j 98) (by omega) (by omega) W)
            have hm2 := fun W => hide (make_in (repB j 98) (repB i c) (by omega) (by omega) W)
            by_cases hlong : 400 < max i j
            · have hlong' : 400 < max j i := by omega
              simp only [repB_mkErr, repB_mkRes7 i j c 98 hlong, if_pos hlong] at hm1
              simp only [repB_mkErr, repB_mkRes7 j i 98 c hlong', if_pos hlong'] at hm2
              obtain ⟨A, hA⟩ : ∃ A, repB i c = A := ⟨_, rfl⟩
              obtain ⟨B, hB⟩ : ∃ B, repB j 98 = B := ⟨_, rfl⟩
              simp only [hA, hB] at hm1 hm2 ⊢
              clear hA hB z1 z2 hlt hss
              go_wp2_with fail
              refine (unhide (hm1 _)).mono ?_
              rintro e W1 ⟨v1, rfl, ho1, hB1⟩
              obtain ⟨a1, p1, rfl⟩ := (RE.of_owns ho1).form
              clear ho1
              go_wp2_with fail
              refine (unhide (hm2 _)).mono ?_
              rintro e W2 ⟨v2, rfl, ho2, hB2⟩
              obtain ⟨a2, p2, rfl⟩ := (RE.of_owns ho2).form
              clear ho2
              simp only [List.length_nil]
              have hB12 := bnext hB1 hB2
              by_cases hi4 : 400 < i
              · have d5 : decide ((400 : Int) < (i : Int)) = true := by rw [decide_eq_true_iff]; omega
                go_wp2_with fail
                refine (known_in _).mono ?_
                rintro e W3 ⟨rfl, hB3⟩
                go_wp2
                go_ret
                exact ⟨rfl, bnext hB12 hB3⟩
              · have d5 : decide ((400 : Int) < (i : Int)) = false := by rw [decide_eq_false_iff_not]; omega
                have d6 : decide ((400 : Int) < (j : Int)) = true := by rw [decide_eq_true_iff]; omega
                go_wp2_with fail
                refine (known_in _).mono ?_
                rintro e W3 ⟨rfl, hB3⟩
                go_wp2
                go_ret
                exact ⟨rfl, bnext hB12 hB3⟩
            · have hlong' : ¬ 400 < max j i := by omega
              have q1 := repB_mkRes i j c 98 (unhide Hf) (by decide +kernel) (unhide Hcd) (.inl (by omega)) hlong
              have q2 := repB_mkRes j i 98 c (by decide +kernel) (unhide Hf) (fun e => unhide Hcd e.symm) (.inr (by omega)) hlong'
              simp only [repB_mkErr, q1, if_neg hlong] at hm1
              simp only [repB_mkErr, q2, if_neg hlong'] at hm2
              clear q1 q2
              obtain ⟨A, hA⟩ : ∃ A, repB i c = A := ⟨_, rfl⟩
              obtain ⟨B, hB⟩ : ∃ B, repB j 98 = B := ⟨_, rfl⟩
              simp only [hA, hB] at hm1 hm2 ⊢
              clear hA hB z1 z2 hlt hss
              have d5 : decide ((400 : Int) < (i : Int)) = false := by rw [decide_eq_false_iff_not]; omega
              have d6 : decide ((400 : Int) < (j : Int)) = false := by rw [decide_eq_false_iff_not]; omega
              go_wp2_with fail
              refine (unhide (hm1 _)).mono ?_
              rintro e W1 ⟨v1, rfl, ho1, hB1⟩
              have Hr1 := hide (RE.of_owns ho1)
              clear ho1
              go_wp2_with fail
              refine (unhide (hm2 _)).mono ?_
              rintro e W2 ⟨v2, rfl, ho2, hB2⟩
              have Hr2 := hide (RE.of_owns ho2)
              have Hr1' := hide ((unhide Hr1).below hB2)
              have hB12 := bnext hB1 hB2
              clear ho2 hB1 hB2 Hr1
              go_wp2_with fail
              refine (eqE_in [(0, (i : Int), B)] [(0, (i : Int), B)] v1 _ _ ((unhide Hr1').below (ballc (Below.refl _ _) _)) (RE.lit W2 [(0, (i : Int), B)] #[.int .i64 0, .int .i64 (i : Nat), .string B] rfl) (by simp) (by simp)).mono ?_
              rintro e W3 ⟨rfl, n3, rfl⟩
              rw [show decide (([(0, (i : Int), B)] : List Ed) = [(0, (i : Int), B)]) = true by simp]
              have hb3 := bdrew (ballc (Below.refl _ W2) (.cells #[.int .i64 0, .int .i64 (i : Nat), .string B] 32)) n3
              have hB3 := bnext hB12 hb3
              have Hr3 := hide ((unhide Hr2).below hb3)
              obtain ⟨W3, hW3⟩ : ∃ W3, (W2.alloc (.cells #[.int .i64 0, .int .i64 (i : Nat), .string B] 32)).drewN n3 = W3 := ⟨_, rfl⟩
              rw [hW3] at hB3 Hr3 ⊢
              clear hW3 hb3 hB12 Hr2 Hr1'
              go_wp2_with fail
              refine (eqE_in [(0, (j : Int), A)] [(0, (j : Int), A)] v2 _ _ ((unhide Hr3).below (ballc (Below.refl _ _) _)) (RE.lit W3 [(0, (j : Int), A)] #[.int .i64 0, .int .i64 (j : Nat), .string A] rfl) (by simp) (by simp)).mono ?_
              rintro e W4 ⟨rfl, n4, rfl⟩
              rw [show decide (([(0, (j : Int), A)] : List Ed) = [(0, (j : Int), A)]) = true by simp]
              have hB4 := bnext hB3 (bdrew (ballc (Below.refl _ W3) (.cells #[.int .i64 0, .int .i64 (j : Nat), .string A] 32)) n4)
              obtain ⟨W4, hW4⟩ : ∃ W4, (W3.alloc (.cells #[.int .i64 0, .int .i64 (j : Nat), .string A] 32)).drewN n4 = W4 := ⟨_, rfl⟩
              rw [hW4] at hB4 ⊢
              clear hW4 hB3 Hr3
              go_wp2_with fail
              refine (known_in _).mono ?_
              rintro e W5 ⟨rfl, hB5⟩
              go_wp2
              go_ret
              exact ⟨rfl, bnext hB4 hB5⟩

set_option maxRecDepth 100000 in
set_option maxHeartbeats 4000000 in
theorem walk (n m : Int) (wide : Bool) (w0 : (Lit.int .i64 n).wf = true) (w1 : (Lit.int .i64 m).wf = true) (W : World) :
    Calls Try.prog 4 #[.int .i64 n, .int .i64 m, .bool wide] W fun e W' => e = .returned (.bool true) ∧ Below W.heap.size W W' := by
  clear w0 w1
  have hkn := fun W => hide (known_in W)
  by_cases h1 : n < 397
  · have d1 : decide (n < 397) = true := decide_eq_true h1
    go_enter Try.func4, Try.ntmps4
    go_wp2_with (go_at_call 9; refine (unhide (hkn _)).mono ?_; rintro e w' ⟨rfl, hB⟩)
    go_ret
    exact ⟨rfl, hB⟩
  · have d1 : decide (n < 397) = false := decide_eq_false h1
    by_cases h2 : 403 < n
    · have d2 : decide (403 < n) = true := decide_eq_true h2
      go_enter Try.func4, Try.ntmps4
      go_wp2_with (go_at_call 9; refine (unhide (hkn _)).mono ?_; rintro e w' ⟨rfl, hB⟩)
      go_ret
      exact ⟨rfl, hB⟩
    · have d2 : decide (403 < n) = false := decide_eq_false h2
      by_cases h3 : m < 0
      · have d3 : decide (m < 0) = true := decide_eq_true h3
        go_enter Try.func4, Try.ntmps4
        go_wp2_with (go_at_call 9; refine (unhide (hkn _)).mono ?_; rintro e w' ⟨rfl, hB⟩)
        go_ret
        exact ⟨rfl, hB⟩
      · have d3 : decide (m < 0) = false := decide_eq_false h3
        by_cases h4 : 403 < m
        · have d4 : decide (403 < m) = true := decide_eq_true h4
          go_enter Try.func4, Try.ntmps4
          go_wp2_with (go_at_call 9; refine (unhide (hkn _)).mono ?_; rintro e w' ⟨rfl, hB⟩)
          go_ret
          exact ⟨rfl, hB⟩
        · obtain ⟨N, rfl⟩ := Int.eq_ofNat_of_zero_le (show 0 ≤ n by omega)
          obtain ⟨M, rfl⟩ := Int.eq_ofNat_of_zero_le (show 0 ≤ m by omega)
          cases wide
          · exact inner N M false 97 ⟨#[97]⟩ rfl (by decide +kernel) (by decide +kernel) (by decide) (by omega) (by omega) (by omega) W
          · exact inner N M true 119070 ⟨#[240, 157, 132, 158]⟩ rfl (by decide +kernel) (by decide +kernel) (by decide) (by omega) (by omega) (by omega) W

theorem own : ownKnob Try.prog.godebug = none := by kernel_rfl

set_option maxRecDepth 100000 in
theorem lifted (os : Os) (started : os.Started) (H : Type) (enc : TypeId × Value → H) :
    ReturnsInHanded {} Try.checked os 4 .any (Rows.diffLimitsSpec.pre6 enc Try.prog Try.f4 Rows.diffLimitsRow.domain false) (Rows.diffLimitsSpec.post enc Try.prog Try.f4 false true false false) := by
  refine returnsInHanded_of_change (C := Try.checked) own started (by kernel_rfl) Try.func4
    (ChangeSpec.witness6 (enc := enc) (C := Try.checked) false ⟨#[], #[.int .i64 0, .int .i64 0, .bool false], []⟩ 8 (by kernel_rfl) (by kernel_rfl) (by kernel_rfl) (by kernel_rfl)) ?_
  intro W base args ds gs before hval0 hW hcnd _
  have hval : ∀ (j : Nat) t v, Try.f4.params[j]? = some t → args[j]? = some v → Value.okWide Try.prog W .any base t v := hval0
  have hW' := hW
  obtain ⟨p, q, hA0, hV, rfl, hfz, hnd⟩ := hW
  have hA : DataW.TrodAll enc Try.prog W 0 (fun _ => true) true Try.f4.params.toList args.toList ds p := hA0
  rw [Try.params4] at hA hval
  obtain ⟨v0, vs0, d0, ds0, p0, q0, hargs, rfl, rfl, h0, r0⟩ := trodAll_cons hA
  obtain ⟨v1, vs1, d1, ds1, p1, q1, rfl, rfl, rfl, h1, r1⟩ := trodAll_cons r0
  obtain ⟨v2, vs2, d2, ds2, p2, q2, rfl, rfl, rfl, h2, r2⟩ := trodAll_cons r1
  obtain ⟨rfl, rfl, rfl⟩ := trodAll_nil r2
  obtain rfl : args = #[v0, v1, v2] := by cases args; simp_all
  obtain ⟨rfl, rfl⟩ := trodVars_none hV
  obtain ⟨a0, rfl, rfl, rfl, w0⟩ := open_int Try.underlying3 (hval 0 3 v0 rfl rfl) h0
  obtain ⟨a1, rfl, rfl, rfl, w1⟩ := open_int Try.underlying3 (hval 1 3 v1 rfl rfl) h1
  obtain ⟨a2, rfl, rfl, rfl⟩ := open_bool Try.underlying4 (hval 2 4 v2 rfl rfl) h2
  clear hA0 hval0
  simp only [List.append_nil] at hW'
  refine (walk a0 a1 a2 w0 w1 W).mono fun e W' ⟨he, bel⟩ => ?_
  subst he
  exact ⟨_, rfl, _, _, _, [], _, [], hW', trodAll_mk1 (shut_bool Try.underlying4 _), (trodAll_cons_mk (shut_int Try.underlying3 w0) (trodAll_cons_mk (shut_int Try.underlying3 w1) (trodAll_cons_mk (shut_bool Try.underlying4 _) trodAll_mk0))), rfl, bel.frame _, fun h => by cases h⟩

theorem over : Rows.diffLimitsRow.holds Try.pinned (OpenSpec.ofChange Rows.diffLimitsSpec) :=
  OpenClaim.holds_of_wide 4 Try.f4 rfl rfl rfl rfl rfl rfl rfl ⟨rfl, rfl, rfl, rfl, rfl⟩ rfl rfl rfl rfl rfl (by kernel_rfl) Try.func4 (by kernel_rfl)
    (of_decide_eq_true (by kernel_rfl)) (by unfold Func.isWrapper; first | (rw [if_pos (by decide +kernel)]; kernel_rfl) | (rw [if_neg (by decide +kernel)]; exact ⟨rfl, rfl⟩))
    (fun os started H enc _ => lifted os started H enc)

end LDiffLimits

theorem diffLimits_holds : Rows.DiffLimitsSaid := LDiffLimits.over

end Go.Proofs.Ytlbgfcbhpmhhpaa
