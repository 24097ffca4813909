/-
  Chapter 7's law VectorLattice returns true for every three lists of Dots, and leaves its arguments as they were; no condition.
-/
import Derived.Test.YtmjhkgpbemjjkaaRows
import Derived.WalkKit
import Derived.ProofKit
import Derived.OpenShut
import Derived.ShutString
import Derived.ChangeOld
import Derived.Below
import Derived.Test.YtmjhkgpbemjjkaaZV8
import Derived.Test.YtmjhkgpbemjjkaaZOp
import Derived.Deep.CutRange
set_option linter.unusedVariables false
set_option linter.unusedSimpArgs false
namespace Go.Proofs.Ytmjhkgpbemjjkaa
namespace LVectorLattice
open Go.ChangeShapes Go.WideShapes Go.ChangeAt Go.RowKit Go.Lib
open Go.ChangeMaps (open_string shut_string)

theorem hide_drew {W W' : World} {k : Nat} (h : W' = W.drewN k) : Below W.heap.size W W' := by rw [h]; exact bdrew (Below.refl _ _) k
theorem cov_up {s t u : Nat → Int} (h1 : Good s) (h2 : Good t) (h3 : Good u) (h : cov u s = true) : cov u (mrg s t) = cov u t := by
  have hA := (cov_iff h3 h1).1 h
  rw [Bool.eq_iff_iff, cov_iff h3 (h1.mrg h2), cov_iff h3 h2]
  exact ⟨fun k i => by have := k i; unfold mrg at this; omega, fun k i => by have := k i; have := hA i; unfold mrg; omega⟩
theorem cov_down {s t u : Nat → Int} (h1 : Good s) (h2 : Good t) (h3 : Good u) (h : cov s u = true) : cov (lst s t) u = cov t u := by
  have hA := (cov_iff h1 h3).1 h
  rw [Bool.eq_iff_iff, cov_iff (h1.lst h2) h3, cov_iff h2 h3]
  exact ⟨fun k i => by have := k i; unfold lst at this; omega, fun k i => by have := k i; have := hA i; unfold lst; omega⟩
theorem cov_tr {s t u : Nat → Int} (h1 : Good s) (h2 : Good t) (h3 : Good u) (h : cov s t = true) (k : cov t u = true) : cov s u = true := by
  have hA := (cov_iff h1 h2).1 h
  have hB := (cov_iff h2 h3).1 k
  rw [cov_iff h1 h3]
  exact fun i => by have := hA i; have := hB i; omega
theorem cov_eq {s t : Nat → Int} (h1 : Good s) (h2 : Good t) (h : cov s t = true) (k : cov t s = true) : s = t := by
  have hA := (cov_iff h1 h2).1 h
  have hB := (cov_iff h2 h1).1 k
  exact funext fun i => by have := hA i; have := hB i; omega
theorem mrg_nil {s : Nat → Int} (h1 : Good s) : mrg s (sy []) = s := funext fun i => by have := h1.lo i; simp only [mrg, sy_nil]; omega
theorem cov_same {s t : Nat → Int} (h1 : Good s) (h2 : Good t) : decide (vec (mrg s t) = vec (mrg s (sy []))) = cov s t := by
  rw [mrg_nil h1, Bool.eq_iff_iff, decide_eq_true_iff, cov_iff h1 h2]
  refine ⟨fun h i => ?_, fun h => ?_⟩
  · have := congrFun (vec_inj (h1.mrg h2) h1 h) i
    unfold mrg at this
    omega
  · rw [show mrg s t = s from funext fun i => by have := h i; unfold mrg; omega]
theorem sum_in {s : Nat → Int} (h : Good s) : 0 ≤ sum s ∧ sum s ≤ 36507222016 := by
  have := sumN_in h 17
  unfold sum
  omega

set_option maxRecDepth 100000 in
set_option maxHeartbeats 20000000 in
theorem walk (a0 : Option Addr) (len0 cap0 : Nat) (z0 : List (Int × Int)) (a1 : Option Addr) (len1 cap1 : Nat) (z1 : List (Int × Int)) (a2 : Option Addr) (len2 cap2 : Nat) (z2 : List (Int × Int)) (w : World) (w0 : RI w (.slice a0 len0 cap0) z0 ∧ z0.length = len0 ∧ len0 ≤ maxLen ∧ ∀ e ∈ z0, idIn e) (w1 : RI w (.slice a1 len1 cap1) z1 ∧ z1.length = len1 ∧ len1 ≤ maxLen ∧ ∀ e ∈ z1, idIn e) (w2 : RI w (.slice a2 len2 cap2) z2 ∧ z2.length = len2 ∧ len2 ≤ maxLen ∧ ∀ e ∈ z2, idIn e) :
    Calls Try.prog 6 #[.slice a0 len0 cap0, .slice a1 len1 cap1, .slice a2 len2 cap2] w fun e W => e = .returned (.bool true) ∧ Below w.heap.size w W := by
  obtain ⟨r0, e0, _, _⟩ := w0
  obtain ⟨r1, e1, _, _⟩ := w1
  obtain ⟨r2, e2, _, _⟩ := w2
  have K := hide (known_in w)
  by_cases h0 : 4000 < len0
  · have h0' : (4000 : Int) < (len0 : Int) := by omega
    clear e0 e1 e2
    go_enter Try.func6, Try.ntmps6
    go_wp2_with (go_at_call 9; refine (unhide K).mono ?_; rintro e W3 ⟨rfl, hb⟩; replace hb := hide hb)
    go_ret
    exact ⟨rfl, unhide hb⟩
  by_cases h1 : 4000 < len1
  · have h0' : ¬ (4000 : Int) < (len0 : Int) := by omega
    have h1' : (4000 : Int) < (len1 : Int) := by omega
    clear e0 e1 e2
    go_enter Try.func6, Try.ntmps6
    go_wp2_with (go_at_call 9; refine (unhide K).mono ?_; rintro e W3 ⟨rfl, hb⟩; replace hb := hide hb)
    go_ret
    exact ⟨rfl, unhide hb⟩
  by_cases h2 : 4000 < len2
  · have h0' : ¬ (4000 : Int) < (len0 : Int) := by omega
    have h1' : ¬ (4000 : Int) < (len1 : Int) := by omega
    have h2' : (4000 : Int) < (len2 : Int) := by omega
    clear e0 e1 e2
    go_enter Try.func6, Try.ntmps6
    go_wp2_with (go_at_call 9; refine (unhide K).mono ?_; rintro e W3 ⟨rfl, hb⟩; replace hb := hide hb)
    go_ret
    exact ⟨rfl, unhide hb⟩
  have h0' : ¬ (4000 : Int) < (len0 : Int) := by omega
  have h1' : ¬ (4000 : Int) < (len1 : Int) := by omega
  have h2' : ¬ (4000 : Int) < (len2 : Int) := by omega
  have hz0 : z0.length ≤ 140737488355328 := by omega
  have hz1 : z1.length ≤ 140737488355328 := by omega
  have hz2 : z2.length ≤ 140737488355328 := by omega
  have Ra := hide r0
  have Rb := hide r1
  have Rc := hide r2
  have BX := hide (Below.refl w.heap.size w)
  clear r0 r1 r2 e0 e1 e2 K h0 h1 h2
  go_enter Try.func6, Try.ntmps6
  have K := hide (Merge_in _ _ z0 z1 w (unhide Ra) (unhide Rb) hz0 hz1)
  go_wp2_with fail
  refine (unhide K).mono ?_
  rintro e W1 ⟨v9, rfl, ho9, hb⟩
  obtain ⟨am, cm, rfl⟩ := ho9.form
  have Rm := ho9.row
  clear ho9
  generalize (vec (mrg (sy z0) (sy z1))).length = nm at Rm ⊢
  replace Rm := hide Rm
  replace Ra := hide ((unhide Ra).below hb)
  replace Rb := hide ((unhide Rb).below hb)
  replace Rc := hide ((unhide Rc).below hb)
  replace BX := hide (bnext (unhide BX) hb)
  clear K hb
  have K := hide (Least_in _ _ z0 z1 W1 (unhide Ra) (unhide Rb) hz0 hz1)
  go_wp2_with fail
  refine (unhide K).mono ?_
  rintro e W2 ⟨v9, rfl, ho9, hb⟩
  obtain ⟨al, cl, rfl⟩ := ho9.form
  have Rl := ho9.row
  clear ho9
  generalize (vec (lst (sy z0) (sy z1))).length = nl at Rl ⊢
  replace Rl := hide Rl
  replace Ra := hide ((unhide Ra).below hb)
  replace Rb := hide ((unhide Rb).below hb)
  replace Rc := hide ((unhide Rc).below hb)
  replace Rm := hide ((unhide Rm).below hb)
  replace BX := hide (bnext (unhide BX) hb)
  clear K hb
  clear h0' h1' h2'
  have K := hide (Check_in _ (vec (mrg (sy z0) (sy z1))) W2 (unhide Rm) (by have := vec_len (mrg (sy z0) (sy z1)); omega))
  rw [chk_vec ((sy_good z0).mrg (sy_good z1))] at K
  go_wp2_with fail
  refine (unhide K).mono ?_
  rintro e W3 ⟨rfl, hb⟩
  replace Ra := hide ((unhide Ra).below hb)
  replace Rb := hide ((unhide Rb).below hb)
  replace Rc := hide ((unhide Rc).below hb)
  replace Rm := hide ((unhide Rm).below hb)
  replace Rl := hide ((unhide Rl).below hb)
  replace BX := hide (bnext (unhide BX) hb)
  clear K hb
  have K := hide (Check_in _ (vec (lst (sy z0) (sy z1))) W3 (unhide Rl) (by have := vec_len (lst (sy z0) (sy z1)); omega))
  rw [chk_vec ((sy_good z0).lst (sy_good z1))] at K
  go_wp2_with fail
  refine (unhide K).mono ?_
  rintro e W4 ⟨rfl, hb⟩
  replace Ra := hide ((unhide Ra).below hb)
  replace Rb := hide ((unhide Rb).below hb)
  replace Rc := hide ((unhide Rc).below hb)
  replace Rm := hide ((unhide Rm).below hb)
  replace Rl := hide ((unhide Rl).below hb)
  replace BX := hide (bnext (unhide BX) hb)
  clear K hb
  have K := hide (Covers_in _ _ (vec (mrg (sy z0) (sy z1))) z0 W4 (unhide Rm) (unhide Ra) (by have := vec_len (mrg (sy z0) (sy z1)); omega) hz0)
  rw [sy_vec ((sy_good z0).mrg (sy_good z1))] at K
  rw [(show cov (mrg (sy z0) (sy z1)) (sy z0) = true from (cov_iff ((sy_good z0).mrg (sy_good z1)) (sy_good z0)).2 fun i => by simp only [mrg, lst]; omega)] at K
  go_wp2_with fail
  refine (unhide K).mono ?_
  rintro e W5 ⟨rfl, hb⟩
  replace Ra := hide ((unhide Ra).below hb)
  replace Rb := hide ((unhide Rb).below hb)
  replace Rc := hide ((unhide Rc).below hb)
  replace Rm := hide ((unhide Rm).below hb)
  replace Rl := hide ((unhide Rl).below hb)
  replace BX := hide (bnext (unhide BX) hb)
  clear K hb
  have K := hide (Covers_in _ _ (vec (mrg (sy z0) (sy z1))) z1 W5 (unhide Rm) (unhide Rb) (by have := vec_len (mrg (sy z0) (sy z1)); omega) hz1)
  rw [sy_vec ((sy_good z0).mrg (sy_good z1))] at K
  rw [(show cov (mrg (sy z0) (sy z1)) (sy z1) = true from (cov_iff ((sy_good z0).mrg (sy_good z1)) (sy_good z1)).2 fun i => by simp only [mrg, lst]; omega)] at K
  go_wp2_with fail
  refine (unhide K).mono ?_
  rintro e W6 ⟨rfl, hb⟩
  replace Ra := hide ((unhide Ra).below hb)
  replace Rb := hide ((unhide Rb).below hb)
  replace Rc := hide ((unhide Rc).below hb)
  replace Rm := hide ((unhide Rm).below hb)
  replace Rl := hide ((unhide Rl).below hb)
  replace BX := hide (bnext (unhide BX) hb)
  clear K hb
  have K := hide (Covers_in _ _ z0 (vec (lst (sy z0) (sy z1))) W6 (unhide Ra) (unhide Rl) hz0 (by have := vec_len (lst (sy z0) (sy z1)); omega))
  rw [sy_vec ((sy_good z0).lst (sy_good z1))] at K
  rw [(show cov (sy z0) (lst (sy z0) (sy z1)) = true from (cov_iff (sy_good z0) ((sy_good z0).lst (sy_good z1))).2 fun i => by simp only [mrg, lst]; omega)] at K
  go_wp2_with fail
  refine (unhide K).mono ?_
  rintro e W7 ⟨rfl, hb⟩
  replace Ra := hide ((unhide Ra).below hb)
  replace Rb := hide ((unhide Rb).below hb)
  replace Rc := hide ((unhide Rc).below hb)
  replace Rm := hide ((unhide Rm).below hb)
  replace Rl := hide ((unhide Rl).below hb)
  replace BX := hide (bnext (unhide BX) hb)
  clear K hb
  have K := hide (Covers_in _ _ z1 (vec (lst (sy z0) (sy z1))) W7 (unhide Rb) (unhide Rl) hz1 (by have := vec_len (lst (sy z0) (sy z1)); omega))
  rw [sy_vec ((sy_good z0).lst (sy_good z1))] at K
  rw [(show cov (sy z1) (lst (sy z0) (sy z1)) = true from (cov_iff (sy_good z1) ((sy_good z0).lst (sy_good z1))).2 fun i => by simp only [mrg, lst]; omega)] at K
  go_wp2_with fail
  refine (unhide K).mono ?_
  rintro e W8 ⟨rfl, hb⟩
  replace Ra := hide ((unhide Ra).below hb)
  replace Rb := hide ((unhide Rb).below hb)
  replace Rc := hide ((unhide Rc).below hb)
  replace Rm := hide ((unhide Rm).below hb)
  replace Rl := hide ((unhide Rl).below hb)
  replace BX := hide (bnext (unhide BX) hb)
  clear K hb
  have K := hide (Covers_in _ _ z0 z0 W8 (unhide Ra) (unhide Ra) hz0 hz0)
  rw [(show cov (sy z0) (sy z0) = true from (cov_iff (sy_good z0) (sy_good z0)).2 fun i => by omega)] at K
  go_wp2_with fail
  refine (unhide K).mono ?_
  rintro e W9 ⟨rfl, hb⟩
  replace Ra := hide ((unhide Ra).below hb)
  replace Rb := hide ((unhide Rb).below hb)
  replace Rc := hide ((unhide Rc).below hb)
  replace Rm := hide ((unhide Rm).below hb)
  replace Rl := hide ((unhide Rl).below hb)
  replace BX := hide (bnext (unhide BX) hb)
  clear K hb
  go_upto_region 7 with fail
  go_cut [92] from 67 to 92 (fun v wx => v = .bool false ∧ Hid (RI wx (.slice a0 len0 cap0) z0) ∧ Hid (RI wx (.slice a1 len1 cap1) z1) ∧ Hid (RI wx (.slice a2 len2 cap2) z2) ∧ Hid (RI wx (.slice am nm cm) (vec (mrg (sy z0) (sy z1)))) ∧ Hid (RI wx (.slice al nl cl) (vec (lst (sy z0) (sy z1)))) ∧ Hid (Below w.heap.size w wx))
  case first =>
    cases hA : cov (sy z2) (sy z0)
    · have K := hide (Covers_in _ _ z2 z0 W9 (unhide Rc) (unhide Ra) hz2 hz0)
      rw [hA] at K
      go_wp2_with fail
      refine (unhide K).mono ?_
      rintro e W10 ⟨rfl, hb⟩
      replace Ra := hide ((unhide Ra).below hb)
      replace Rb := hide ((unhide Rb).below hb)
      replace Rc := hide ((unhide Rc).below hb)
      replace Rm := hide ((unhide Rm).below hb)
      replace Rl := hide ((unhide Rl).below hb)
      replace BX := hide (bnext (unhide BX) hb)
      clear K hb
      cases hB : cov (sy z0) (sy z2)
      · have K := hide (Covers_in _ _ z0 z2 W10 (unhide Ra) (unhide Rc) hz0 hz2)
        rw [hB] at K
        go_wp2_with fail
        refine (unhide K).mono ?_
        rintro e W11 ⟨rfl, hb⟩
        replace Ra := hide ((unhide Ra).below hb)
        replace Rb := hide ((unhide Rb).below hb)
        replace Rc := hide ((unhide Rc).below hb)
        replace Rm := hide ((unhide Rm).below hb)
        replace Rl := hide ((unhide Rl).below hb)
        replace BX := hide (bnext (unhide BX) hb)
        clear K hb
        go_wp2
        go_meet
        case rel => exact ⟨rfl, Ra, Rb, Rc, Rm, Rl, BX⟩
      · have K := hide (Covers_in _ _ z0 z2 W10 (unhide Ra) (unhide Rc) hz0 hz2)
        rw [hB] at K
        go_wp2_with fail
        refine (unhide K).mono ?_
        rintro e W11 ⟨rfl, hb⟩
        replace Ra := hide ((unhide Ra).below hb)
        replace Rb := hide ((unhide Rb).below hb)
        replace Rc := hide ((unhide Rc).below hb)
        replace Rm := hide ((unhide Rm).below hb)
        replace Rl := hide ((unhide Rl).below hb)
        replace BX := hide (bnext (unhide BX) hb)
        clear K hb
        obtain ⟨B2, hB2⟩ : ∃ B2, cov (sy z1) (sy z2) = B2 := ⟨_, rfl⟩
        have K := hide (Covers_in _ _ z1 z2 W11 (unhide Rb) (unhide Rc) hz1 hz2)
        rw [hB2] at K
        go_wp2_with fail
        refine (unhide K).mono ?_
        rintro e W12 ⟨rfl, hb⟩
        replace Ra := hide ((unhide Ra).below hb)
        replace Rb := hide ((unhide Rb).below hb)
        replace Rc := hide ((unhide Rc).below hb)
        replace Rm := hide ((unhide Rm).below hb)
        replace Rl := hide ((unhide Rl).below hb)
        replace BX := hide (bnext (unhide BX) hb)
        clear K hb
        have K := hide (Covers_in _ _ (vec (lst (sy z0) (sy z1))) z2 W12 (unhide Rl) (unhide Rc) (by have := vec_len (lst (sy z0) (sy z1)); omega) hz2)
        rw [sy_vec ((sy_good z0).lst (sy_good z1))] at K
        rw [cov_down (sy_good z0) (sy_good z1) (sy_good z2) hB, hB2] at K
        go_wp2_with fail
        refine (unhide K).mono ?_
        rintro e W13 ⟨rfl, hb⟩
        replace Ra := hide ((unhide Ra).below hb)
        replace Rb := hide ((unhide Rb).below hb)
        replace Rc := hide ((unhide Rc).below hb)
        replace Rm := hide ((unhide Rm).below hb)
        replace Rl := hide ((unhide Rl).below hb)
        replace BX := hide (bnext (unhide BX) hb)
        clear K hb
        go_wp2
        go_meet
        case rel => exact ⟨rfl, Ra, Rb, Rc, Rm, Rl, BX⟩
    · have K := hide (Covers_in _ _ z2 z0 W9 (unhide Rc) (unhide Ra) hz2 hz0)
      rw [hA] at K
      go_wp2_with fail
      refine (unhide K).mono ?_
      rintro e W10 ⟨rfl, hb⟩
      replace Ra := hide ((unhide Ra).below hb)
      replace Rb := hide ((unhide Rb).below hb)
      replace Rc := hide ((unhide Rc).below hb)
      replace Rm := hide ((unhide Rm).below hb)
      replace Rl := hide ((unhide Rl).below hb)
      replace BX := hide (bnext (unhide BX) hb)
      clear K hb
      obtain ⟨B1, hB1⟩ : ∃ B1, cov (sy z2) (sy z1) = B1 := ⟨_, rfl⟩
      have K := hide (Covers_in _ _ z2 z1 W10 (unhide Rc) (unhide Rb) hz2 hz1)
      rw [hB1] at K
      go_wp2_with fail
      refine (unhide K).mono ?_
      rintro e W11 ⟨rfl, hb⟩
      replace Ra := hide ((unhide Ra).below hb)
      replace Rb := hide ((unhide Rb).below hb)
      replace Rc := hide ((unhide Rc).below hb)
      replace Rm := hide ((unhide Rm).below hb)
      replace Rl := hide ((unhide Rl).below hb)
      replace BX := hide (bnext (unhide BX) hb)
      clear K hb
      have K := hide (Covers_in _ _ z2 (vec (mrg (sy z0) (sy z1))) W11 (unhide Rc) (unhide Rm) hz2 (by have := vec_len (mrg (sy z0) (sy z1)); omega))
      rw [sy_vec ((sy_good z0).mrg (sy_good z1))] at K
      rw [cov_up (sy_good z0) (sy_good z1) (sy_good z2) hA, hB1] at K
      go_wp2_with fail
      refine (unhide K).mono ?_
      rintro e W12 ⟨rfl, hb⟩
      replace Ra := hide ((unhide Ra).below hb)
      replace Rb := hide ((unhide Rb).below hb)
      replace Rc := hide ((unhide Rc).below hb)
      replace Rm := hide ((unhide Rm).below hb)
      replace Rl := hide ((unhide Rl).below hb)
      replace BX := hide (bnext (unhide BX) hb)
      clear K hb
      cases hB : cov (sy z0) (sy z2)
      · have K := hide (Covers_in _ _ z0 z2 W12 (unhide Ra) (unhide Rc) hz0 hz2)
        rw [hB] at K
        go_wp2_with fail
        refine (unhide K).mono ?_
        rintro e W13 ⟨rfl, hb⟩
        replace Ra := hide ((unhide Ra).below hb)
        replace Rb := hide ((unhide Rb).below hb)
        replace Rc := hide ((unhide Rc).below hb)
        replace Rm := hide ((unhide Rm).below hb)
        replace Rl := hide ((unhide Rl).below hb)
        replace BX := hide (bnext (unhide BX) hb)
        clear K hb
        go_wp2
        go_meet
        case rel => exact ⟨rfl, Ra, Rb, Rc, Rm, Rl, BX⟩
      · have K := hide (Covers_in _ _ z0 z2 W12 (unhide Ra) (unhide Rc) hz0 hz2)
        rw [hB] at K
        go_wp2_with fail
        refine (unhide K).mono ?_
        rintro e W13 ⟨rfl, hb⟩
        replace Ra := hide ((unhide Ra).below hb)
        replace Rb := hide ((unhide Rb).below hb)
        replace Rc := hide ((unhide Rc).below hb)
        replace Rm := hide ((unhide Rm).below hb)
        replace Rl := hide ((unhide Rl).below hb)
        replace BX := hide (bnext (unhide BX) hb)
        clear K hb
        obtain ⟨B2, hB2⟩ : ∃ B2, cov (sy z1) (sy z2) = B2 := ⟨_, rfl⟩
        have K := hide (Covers_in _ _ z1 z2 W13 (unhide Rb) (unhide Rc) hz1 hz2)
        rw [hB2] at K
        go_wp2_with fail
        refine (unhide K).mono ?_
        rintro e W14 ⟨rfl, hb⟩
        replace Ra := hide ((unhide Ra).below hb)
        replace Rb := hide ((unhide Rb).below hb)
        replace Rc := hide ((unhide Rc).below hb)
        replace Rm := hide ((unhide Rm).below hb)
        replace Rl := hide ((unhide Rl).below hb)
        replace BX := hide (bnext (unhide BX) hb)
        clear K hb
        have K := hide (Covers_in _ _ (vec (lst (sy z0) (sy z1))) z2 W14 (unhide Rl) (unhide Rc) (by have := vec_len (lst (sy z0) (sy z1)); omega) hz2)
        rw [sy_vec ((sy_good z0).lst (sy_good z1))] at K
        rw [cov_down (sy_good z0) (sy_good z1) (sy_good z2) hB, hB2] at K
        go_wp2_with fail
        refine (unhide K).mono ?_
        rintro e W15 ⟨rfl, hb⟩
        replace Ra := hide ((unhide Ra).below hb)
        replace Rb := hide ((unhide Rb).below hb)
        replace Rc := hide ((unhide Rc).below hb)
        replace Rm := hide ((unhide Rm).below hb)
        replace Rl := hide ((unhide Rl).below hb)
        replace BX := hide (bnext (unhide BX) hb)
        clear K hb
        go_wp2
        go_meet
        case rel => exact ⟨rfl, Ra, Rb, Rc, Rm, Rl, BX⟩
  case rest =>
    clear Ra Rb Rc Rm Rl BX
    obtain ⟨rfl, Ra, Rb, Rc, Rm, Rl, BX⟩ := hcut
    go_upto_region 9 with fail
    go_cut [134] from 93 to 134 (fun v wx => v = .bool false ∧ Hid (RI wx (.slice a0 len0 cap0) z0) ∧ Hid (RI wx (.slice a1 len1 cap1) z1) ∧ Hid (RI wx (.slice a2 len2 cap2) z2) ∧ Hid (RI wx (.slice am nm cm) (vec (mrg (sy z0) (sy z1)))) ∧ Hid (RI wx (.slice al nl cl) (vec (lst (sy z0) (sy z1)))) ∧ Hid (Below w.heap.size w wx))
    case first =>
      cases hA : cov (sy z0) (sy z1)
      · have K := hide (Covers_in _ _ z0 z1 wc (unhide Ra) (unhide Rb) hz0 hz1)
        rw [hA] at K
        go_wp2_with fail
        refine (unhide K).mono ?_
        rintro e W10 ⟨rfl, hb⟩
        replace Ra := hide ((unhide Ra).below hb)
        replace Rb := hide ((unhide Rb).below hb)
        replace Rc := hide ((unhide Rc).below hb)
        replace Rm := hide ((unhide Rm).below hb)
        replace Rl := hide ((unhide Rl).below hb)
        replace BX := hide (bnext (unhide BX) hb)
        clear K hb
        have K := hide (Covers_in _ _ z0 z1 W10 (unhide Ra) (unhide Rb) hz0 hz1)
        rw [hA] at K
        go_wp2_with fail
        refine (unhide K).mono ?_
        rintro e W11 ⟨rfl, hb⟩
        replace Ra := hide ((unhide Ra).below hb)
        replace Rb := hide ((unhide Rb).below hb)
        replace Rc := hide ((unhide Rc).below hb)
        replace Rm := hide ((unhide Rm).below hb)
        replace Rl := hide ((unhide Rl).below hb)
        replace BX := hide (bnext (unhide BX) hb)
        clear K hb
        have K := hide (Covers_in _ _ z0 z1 W11 (unhide Ra) (unhide Rb) hz0 hz1)
        rw [hA] at K
        go_wp2_with fail
        refine (unhide K).mono ?_
        rintro e W12 ⟨rfl, hb⟩
        replace Ra := hide ((unhide Ra).below hb)
        replace Rb := hide ((unhide Rb).below hb)
        replace Rc := hide ((unhide Rc).below hb)
        replace Rm := hide ((unhide Rm).below hb)
        replace Rl := hide ((unhide Rl).below hb)
        replace BX := hide (bnext (unhide BX) hb)
        clear K hb
        have K := hide (Merge_in _ _ z0 [] W12 (unhide Ra) (RC.nil _ none 0) hz0 (by decide))
        go_wp2_with fail
        refine (unhide K).mono ?_
        rintro e W13 ⟨v9, rfl, ho9, hb⟩
        obtain ⟨ax, cx, rfl⟩ := ho9.form
        have Rx := ho9.row
        clear ho9
        generalize (vec (mrg (sy z0) (sy []))).length = nx at Rx ⊢
        replace Rx := hide Rx
        replace Ra := hide ((unhide Ra).below hb)
        replace Rb := hide ((unhide Rb).below hb)
        replace Rc := hide ((unhide Rc).below hb)
        replace Rm := hide ((unhide Rm).below hb)
        replace Rl := hide ((unhide Rl).below hb)
        replace BX := hide (bnext (unhide BX) hb)
        clear K hb
        have K := hide (Same_in (vec (mrg (sy z0) (sy z1))) (vec (mrg (sy z0) (sy []))) _ _ W13 (unhide Rm) (unhide Rx) (by have := vec_len (mrg (sy z0) (sy z1)); omega) (by have := vec_len (mrg (sy z0) (sy [])); omega))
        rw [cov_same (sy_good z0) (sy_good z1), hA] at K
        go_wp2_with fail
        refine (unhide K).mono ?_
        rintro e W14 ⟨rfl, k9, hk9⟩
        have hb := hide_drew hk9
        clear hk9
        replace Ra := hide ((unhide Ra).below hb)
        replace Rb := hide ((unhide Rb).below hb)
        replace Rc := hide ((unhide Rc).below hb)
        replace Rm := hide ((unhide Rm).below hb)
        replace Rl := hide ((unhide Rl).below hb)
        replace Rx := hide ((unhide Rx).below hb)
        replace BX := hide (bnext (unhide BX) hb)
        clear K hb
        clear Rx
        go_wp2
        go_meet
        case rel => exact ⟨rfl, Ra, Rb, Rc, Rm, Rl, BX⟩
      · have K := hide (Covers_in _ _ z0 z1 wc (unhide Ra) (unhide Rb) hz0 hz1)
        rw [hA] at K
        go_wp2_with fail
        refine (unhide K).mono ?_
        rintro e W10 ⟨rfl, hb⟩
        replace Ra := hide ((unhide Ra).below hb)
        replace Rb := hide ((unhide Rb).below hb)
        replace Rc := hide ((unhide Rc).below hb)
        replace Rm := hide ((unhide Rm).below hb)
        replace Rl := hide ((unhide Rl).below hb)
        replace BX := hide (bnext (unhide BX) hb)
        clear K hb
        cases hB : cov (sy z1) (sy z2)
        · have K := hide (Covers_in _ _ z1 z2 W10 (unhide Rb) (unhide Rc) hz1 hz2)
          rw [hB] at K
          go_wp2_with fail
          refine (unhide K).mono ?_
          rintro e W11 ⟨rfl, hb⟩
          replace Ra := hide ((unhide Ra).below hb)
          replace Rb := hide ((unhide Rb).below hb)
          replace Rc := hide ((unhide Rc).below hb)
          replace Rm := hide ((unhide Rm).below hb)
          replace Rl := hide ((unhide Rl).below hb)
          replace BX := hide (bnext (unhide BX) hb)
          clear K hb
          have K := hide (Covers_in _ _ z0 z1 W11 (unhide Ra) (unhide Rb) hz0 hz1)
          rw [hA] at K
          go_wp2_with fail
          refine (unhide K).mono ?_
          rintro e W12 ⟨rfl, hb⟩
          replace Ra := hide ((unhide Ra).below hb)
          replace Rb := hide ((unhide Rb).below hb)
          replace Rc := hide ((unhide Rc).below hb)
          replace Rm := hide ((unhide Rm).below hb)
          replace Rl := hide ((unhide Rl).below hb)
          replace BX := hide (bnext (unhide BX) hb)
          clear K hb
          cases hC : cov (sy z1) (sy z0)
          · have K := hide (Covers_in _ _ z1 z0 W12 (unhide Rb) (unhide Ra) hz1 hz0)
            rw [hC] at K
            go_wp2_with fail
            refine (unhide K).mono ?_
            rintro e W13 ⟨rfl, hb⟩
            replace Ra := hide ((unhide Ra).below hb)
            replace Rb := hide ((unhide Rb).below hb)
            replace Rc := hide ((unhide Rc).below hb)
            replace Rm := hide ((unhide Rm).below hb)
            replace Rl := hide ((unhide Rl).below hb)
            replace BX := hide (bnext (unhide BX) hb)
            clear K hb
            have K := hide (Covers_in _ _ z0 z1 W13 (unhide Ra) (unhide Rb) hz0 hz1)
            rw [hA] at K
            go_wp2_with fail
            refine (unhide K).mono ?_
            rintro e W14 ⟨rfl, hb⟩
            replace Ra := hide ((unhide Ra).below hb)
            replace Rb := hide ((unhide Rb).below hb)
            replace Rc := hide ((unhide Rc).below hb)
            replace Rm := hide ((unhide Rm).below hb)
            replace Rl := hide ((unhide Rl).below hb)
            replace BX := hide (bnext (unhide BX) hb)
            clear K hb
            have K := hide (Merge_in _ _ z0 [] W14 (unhide Ra) (RC.nil _ none 0) hz0 (by decide))
            go_wp2_with fail
            refine (unhide K).mono ?_
            rintro e W15 ⟨v9, rfl, ho9, hb⟩
            obtain ⟨ax, cx, rfl⟩ := ho9.form
            have Rx := ho9.row
            clear ho9
            generalize (vec (mrg (sy z0) (sy []))).length = nx at Rx ⊢
            replace Rx := hide Rx
            replace Ra := hide ((unhide Ra).below hb)
            replace Rb := hide ((unhide Rb).below hb)
            replace Rc := hide ((unhide Rc).below hb)
            replace Rm := hide ((unhide Rm).below hb)
            replace Rl := hide ((unhide Rl).below hb)
            replace BX := hide (bnext (unhide BX) hb)
            clear K hb
            have K := hide (Same_in (vec (mrg (sy z0) (sy z1))) (vec (mrg (sy z0) (sy []))) _ _ W15 (unhide Rm) (unhide Rx) (by have := vec_len (mrg (sy z0) (sy z1)); omega) (by have := vec_len (mrg (sy z0) (sy [])); omega))
            rw [cov_same (sy_good z0) (sy_good z1), hA] at K
            go_wp2_with fail
            refine (unhide K).mono ?_
            rintro e W16 ⟨rfl, k9, hk9⟩
            have hb := hide_drew hk9
            clear hk9
            replace Ra := hide ((unhide Ra).below hb)
            replace Rb := hide ((unhide Rb).below hb)
            replace Rc := hide ((unhide Rc).below hb)
            replace Rm := hide ((unhide Rm).below hb)
            replace Rl := hide ((unhide Rl).below hb)
            replace Rx := hide ((unhide Rx).below hb)
            replace BX := hide (bnext (unhide BX) hb)
            clear K hb
            clear Rx
            go_wp2
            go_meet
            case rel => exact ⟨rfl, Ra, Rb, Rc, Rm, Rl, BX⟩
          · have K := hide (Covers_in _ _ z1 z0 W12 (unhide Rb) (unhide Ra) hz1 hz0)
            rw [hC] at K
            go_wp2_with fail
            refine (unhide K).mono ?_
            rintro e W13 ⟨rfl, hb⟩
            replace Ra := hide ((unhide Ra).below hb)
            replace Rb := hide ((unhide Rb).below hb)
            replace Rc := hide ((unhide Rc).below hb)
            replace Rm := hide ((unhide Rm).below hb)
            replace Rl := hide ((unhide Rl).below hb)
            replace BX := hide (bnext (unhide BX) hb)
            clear K hb
            have K := hide (Merge_in _ _ z0 [] W13 (unhide Ra) (RC.nil _ none 0) hz0 (by decide))
            go_wp2_with fail
            refine (unhide K).mono ?_
            rintro e W14 ⟨v9, rfl, ho9, hb⟩
            obtain ⟨ax, cx, rfl⟩ := ho9.form
            have Rx := ho9.row
            clear ho9
            generalize (vec (mrg (sy z0) (sy []))).length = nx at Rx ⊢
            replace Rx := hide Rx
            replace Ra := hide ((unhide Ra).below hb)
            replace Rb := hide ((unhide Rb).below hb)
            replace Rc := hide ((unhide Rc).below hb)
            replace Rm := hide ((unhide Rm).below hb)
            replace Rl := hide ((unhide Rl).below hb)
            replace BX := hide (bnext (unhide BX) hb)
            clear K hb
            have K := hide (Merge_in _ _ z1 [] W14 (unhide Rb) (RC.nil _ none 0) hz1 (by decide))
            go_wp2_with fail
            refine (unhide K).mono ?_
            rintro e W15 ⟨v9, rfl, ho9, hb⟩
            obtain ⟨ay, cy, rfl⟩ := ho9.form
            have Ry := ho9.row
            clear ho9
            generalize (vec (mrg (sy z1) (sy []))).length = ny at Ry ⊢
            replace Ry := hide Ry
            replace Ra := hide ((unhide Ra).below hb)
            replace Rb := hide ((unhide Rb).below hb)
            replace Rc := hide ((unhide Rc).below hb)
            replace Rm := hide ((unhide Rm).below hb)
            replace Rl := hide ((unhide Rl).below hb)
            replace Rx := hide ((unhide Rx).below hb)
            replace BX := hide (bnext (unhide BX) hb)
            clear K hb
            have hdd : decide (vec (mrg (sy z0) (sy [])) = vec (mrg (sy z1) (sy []))) = true := by
              rw [cov_eq (sy_good z0) (sy_good z1) hA hC]
              simp
            have K := hide (Same_in (vec (mrg (sy z0) (sy []))) (vec (mrg (sy z1) (sy []))) _ _ W15 (unhide Rx) (unhide Ry) (by have := vec_len (mrg (sy z0) (sy [])); omega) (by have := vec_len (mrg (sy z1) (sy [])); omega))
            rw [hdd] at K
            go_wp2_with fail
            refine (unhide K).mono ?_
            rintro e W16 ⟨rfl, k9, hk9⟩
            have hb := hide_drew hk9
            clear hk9
            clear hdd
            replace Ra := hide ((unhide Ra).below hb)
            replace Rb := hide ((unhide Rb).below hb)
            replace Rc := hide ((unhide Rc).below hb)
            replace Rm := hide ((unhide Rm).below hb)
            replace Rl := hide ((unhide Rl).below hb)
            replace Rx := hide ((unhide Rx).below hb)
            replace Ry := hide ((unhide Ry).below hb)
            replace BX := hide (bnext (unhide BX) hb)
            clear K hb
            clear Rx
            clear Ry
            have K := hide (Covers_in _ _ z0 z1 W16 (unhide Ra) (unhide Rb) hz0 hz1)
            rw [hA] at K
            go_wp2_with fail
            refine (unhide K).mono ?_
            rintro e W17 ⟨rfl, hb⟩
            replace Ra := hide ((unhide Ra).below hb)
            replace Rb := hide ((unhide Rb).below hb)
            replace Rc := hide ((unhide Rc).below hb)
            replace Rm := hide ((unhide Rm).below hb)
            replace Rl := hide ((unhide Rl).below hb)
            replace BX := hide (bnext (unhide BX) hb)
            clear K hb
            have K := hide (Merge_in _ _ z0 [] W17 (unhide Ra) (RC.nil _ none 0) hz0 (by decide))
            go_wp2_with fail
            refine (unhide K).mono ?_
            rintro e W18 ⟨v9, rfl, ho9, hb⟩
            obtain ⟨ax, cx, rfl⟩ := ho9.form
            have Rx := ho9.row
            clear ho9
            generalize (vec (mrg (sy z0) (sy []))).length = nx at Rx ⊢
            replace Rx := hide Rx
            replace Ra := hide ((unhide Ra).below hb)
            replace Rb := hide ((unhide Rb).below hb)
            replace Rc := hide ((unhide Rc).below hb)
            replace Rm := hide ((unhide Rm).below hb)
            replace Rl := hide ((unhide Rl).below hb)
            replace BX := hide (bnext (unhide BX) hb)
            clear K hb
            have K := hide (Same_in (vec (mrg (sy z0) (sy z1))) (vec (mrg (sy z0) (sy []))) _ _ W18 (unhide Rm) (unhide Rx) (by have := vec_len (mrg (sy z0) (sy z1)); omega) (by have := vec_len (mrg (sy z0) (sy [])); omega))
            rw [cov_same (sy_good z0) (sy_good z1), hA] at K
            go_wp2_with fail
            refine (unhide K).mono ?_
            rintro e W19 ⟨rfl, k9, hk9⟩
            have hb := hide_drew hk9
            clear hk9
            replace Ra := hide ((unhide Ra).below hb)
            replace Rb := hide ((unhide Rb).below hb)
            replace Rc := hide ((unhide Rc).below hb)
            replace Rm := hide ((unhide Rm).below hb)
            replace Rl := hide ((unhide Rl).below hb)
            replace Rx := hide ((unhide Rx).below hb)
            replace BX := hide (bnext (unhide BX) hb)
            clear K hb
            clear Rx
            go_wp2
            go_meet
            case rel => exact ⟨rfl, Ra, Rb, Rc, Rm, Rl, BX⟩
        · have K := hide (Covers_in _ _ z1 z2 W10 (unhide Rb) (unhide Rc) hz1 hz2)
          rw [hB] at K
          go_wp2_with fail
          refine (unhide K).mono ?_
          rintro e W11 ⟨rfl, hb⟩
          replace Ra := hide ((unhide Ra).below hb)
          replace Rb := hide ((unhide Rb).below hb)
          replace Rc := hide ((unhide Rc).below hb)
          replace Rm := hide ((unhide Rm).below hb)
          replace Rl := hide ((unhide Rl).below hb)
          replace BX := hide (bnext (unhide BX) hb)
          clear K hb
          have K := hide (Covers_in _ _ z0 z2 W11 (unhide Ra) (unhide Rc) hz0 hz2)
          rw [cov_tr (sy_good z0) (sy_good z1) (sy_good z2) hA hB] at K
          go_wp2_with fail
          refine (unhide K).mono ?_
          rintro e W12 ⟨rfl, hb⟩
          replace Ra := hide ((unhide Ra).below hb)
          replace Rb := hide ((unhide Rb).below hb)
          replace Rc := hide ((unhide Rc).below hb)
          replace Rm := hide ((unhide Rm).below hb)
          replace Rl := hide ((unhide Rl).below hb)
          replace BX := hide (bnext (unhide BX) hb)
          clear K hb
          have K := hide (Covers_in _ _ z0 z1 W12 (unhide Ra) (unhide Rb) hz0 hz1)
          rw [hA] at K
          go_wp2_with fail
          refine (unhide K).mono ?_
          rintro e W13 ⟨rfl, hb⟩
          replace Ra := hide ((unhide Ra).below hb)
          replace Rb := hide ((unhide Rb).below hb)
          replace Rc := hide ((unhide Rc).below hb)
          replace Rm := hide ((unhide Rm).below hb)
          replace Rl := hide ((unhide Rl).below hb)
          replace BX := hide (bnext (unhide BX) hb)
          clear K hb
          cases hC : cov (sy z1) (sy z0)
          · have K := hide (Covers_in _ _ z1 z0 W13 (unhide Rb) (unhide Ra) hz1 hz0)
            rw [hC] at K
            go_wp2_with fail
            refine (unhide K).mono ?_
            rintro e W14 ⟨rfl, hb⟩
            replace Ra := hide ((unhide Ra).below hb)
            replace Rb := hide ((unhide Rb).below hb)
            replace Rc := hide ((unhide Rc).below hb)
            replace Rm := hide ((unhide Rm).below hb)
            replace Rl := hide ((unhide Rl).below hb)
            replace BX := hide (bnext (unhide BX) hb)
            clear K hb
            have K := hide (Covers_in _ _ z0 z1 W14 (unhide Ra) (unhide Rb) hz0 hz1)
            rw [hA] at K
            go_wp2_with fail
            refine (unhide K).mono ?_
            rintro e W15 ⟨rfl, hb⟩
            replace Ra := hide ((unhide Ra).below hb)
            replace Rb := hide ((unhide Rb).below hb)
            replace Rc := hide ((unhide Rc).below hb)
            replace Rm := hide ((unhide Rm).below hb)
            replace Rl := hide ((unhide Rl).below hb)
            replace BX := hide (bnext (unhide BX) hb)
            clear K hb
            have K := hide (Merge_in _ _ z0 [] W15 (unhide Ra) (RC.nil _ none 0) hz0 (by decide))
            go_wp2_with fail
            refine (unhide K).mono ?_
            rintro e W16 ⟨v9, rfl, ho9, hb⟩
            obtain ⟨ax, cx, rfl⟩ := ho9.form
            have Rx := ho9.row
            clear ho9
            generalize (vec (mrg (sy z0) (sy []))).length = nx at Rx ⊢
            replace Rx := hide Rx
            replace Ra := hide ((unhide Ra).below hb)
            replace Rb := hide ((unhide Rb).below hb)
            replace Rc := hide ((unhide Rc).below hb)
            replace Rm := hide ((unhide Rm).below hb)
            replace Rl := hide ((unhide Rl).below hb)
            replace BX := hide (bnext (unhide BX) hb)
            clear K hb
            have K := hide (Same_in (vec (mrg (sy z0) (sy z1))) (vec (mrg (sy z0) (sy []))) _ _ W16 (unhide Rm) (unhide Rx) (by have := vec_len (mrg (sy z0) (sy z1)); omega) (by have := vec_len (mrg (sy z0) (sy [])); omega))
            rw [cov_same (sy_good z0) (sy_good z1), hA] at K
            go_wp2_with fail
            refine (unhide K).mono ?_
            rintro e W17 ⟨rfl, k9, hk9⟩
            have hb := hide_drew hk9
            clear hk9
            replace Ra := hide ((unhide Ra).below hb)
            replace Rb := hide ((unhide Rb).below hb)
            replace Rc := hide ((unhide Rc).below hb)
            replace Rm := hide ((unhide Rm).below hb)
            replace Rl := hide ((unhide Rl).below hb)
            replace Rx := hide ((unhide Rx).below hb)
            replace BX := hide (bnext (unhide BX) hb)
            clear K hb
            clear Rx
            go_wp2
            go_meet
            case rel => exact ⟨rfl, Ra, Rb, Rc, Rm, Rl, BX⟩
          · have K := hide (Covers_in _ _ z1 z0 W13 (unhide Rb) (unhide Ra) hz1 hz0)
            rw [hC] at K
            go_wp2_with fail
            refine (unhide K).mono ?_
            rintro e W14 ⟨rfl, hb⟩
            replace Ra := hide ((unhide Ra).below hb)
            replace Rb := hide ((unhide Rb).below hb)
            replace Rc := hide ((unhide Rc).below hb)
            replace Rm := hide ((unhide Rm).below hb)
            replace Rl := hide ((unhide Rl).below hb)
            replace BX := hide (bnext (unhide BX) hb)
            clear K hb
            have K := hide (Merge_in _ _ z0 [] W14 (unhide Ra) (RC.nil _ none 0) hz0 (by decide))
            go_wp2_with fail
            refine (unhide K).mono ?_
            rintro e W15 ⟨v9, rfl, ho9, hb⟩
            obtain ⟨ax, cx, rfl⟩ := ho9.form
            have Rx := ho9.row
            clear ho9
            generalize (vec (mrg (sy z0) (sy []))).length = nx at Rx ⊢
            replace Rx := hide Rx
            replace Ra := hide ((unhide Ra).below hb)
            replace Rb := hide ((unhide Rb).below hb)
            replace Rc := hide ((unhide Rc).below hb)
            replace Rm := hide ((unhide Rm).below hb)
            replace Rl := hide ((unhide Rl).below hb)
            replace BX := hide (bnext (unhide BX) hb)
            clear K hb
            have K := hide (Merge_in _ _ z1 [] W15 (unhide Rb) (RC.nil _ none 0) hz1 (by decide))
            go_wp2_with fail
            refine (unhide K).mono ?_
            rintro e W16 ⟨v9, rfl, ho9, hb⟩
            obtain ⟨ay, cy, rfl⟩ := ho9.form
            have Ry := ho9.row
            clear ho9
            generalize (vec (mrg (sy z1) (sy []))).length = ny at Ry ⊢
            replace Ry := hide Ry
            replace Ra := hide ((unhide Ra).below hb)
            replace Rb := hide ((unhide Rb).below hb)
            replace Rc := hide ((unhide Rc).below hb)
            replace Rm := hide ((unhide Rm).below hb)
            replace Rl := hide ((unhide Rl).below hb)
            replace Rx := hide ((unhide Rx).below hb)
            replace BX := hide (bnext (unhide BX) hb)
            clear K hb
            have hdd : decide (vec (mrg (sy z0) (sy [])) = vec (mrg (sy z1) (sy []))) = true := by
              rw [cov_eq (sy_good z0) (sy_good z1) hA hC]
              simp
            have K := hide (Same_in (vec (mrg (sy z0) (sy []))) (vec (mrg (sy z1) (sy []))) _ _ W16 (unhide Rx) (unhide Ry) (by have := vec_len (mrg (sy z0) (sy [])); omega) (by have := vec_len (mrg (sy z1) (sy [])); omega))
            rw [hdd] at K
            go_wp2_with fail
            refine (unhide K).mono ?_
            rintro e W17 ⟨rfl, k9, hk9⟩
            have hb := hide_drew hk9
            clear hk9
            clear hdd
            replace Ra := hide ((unhide Ra).below hb)
            replace Rb := hide ((unhide Rb).below hb)
            replace Rc := hide ((unhide Rc).below hb)
            replace Rm := hide ((unhide Rm).below hb)
            replace Rl := hide ((unhide Rl).below hb)
            replace Rx := hide ((unhide Rx).below hb)
            replace Ry := hide ((unhide Ry).below hb)
            replace BX := hide (bnext (unhide BX) hb)
            clear K hb
            clear Rx
            clear Ry
            have K := hide (Covers_in _ _ z0 z1 W17 (unhide Ra) (unhide Rb) hz0 hz1)
            rw [hA] at K
            go_wp2_with fail
            refine (unhide K).mono ?_
            rintro e W18 ⟨rfl, hb⟩
            replace Ra := hide ((unhide Ra).below hb)
            replace Rb := hide ((unhide Rb).below hb)
            replace Rc := hide ((unhide Rc).below hb)
            replace Rm := hide ((unhide Rm).below hb)
            replace Rl := hide ((unhide Rl).below hb)
            replace BX := hide (bnext (unhide BX) hb)
            clear K hb
            have K := hide (Merge_in _ _ z0 [] W18 (unhide Ra) (RC.nil _ none 0) hz0 (by decide))
            go_wp2_with fail
            refine (unhide K).mono ?_
            rintro e W19 ⟨v9, rfl, ho9, hb⟩
            obtain ⟨ax, cx, rfl⟩ := ho9.form
            have Rx := ho9.row
            clear ho9
            generalize (vec (mrg (sy z0) (sy []))).length = nx at Rx ⊢
            replace Rx := hide Rx
            replace Ra := hide ((unhide Ra).below hb)
            replace Rb := hide ((unhide Rb).below hb)
            replace Rc := hide ((unhide Rc).below hb)
            replace Rm := hide ((unhide Rm).below hb)
            replace Rl := hide ((unhide Rl).below hb)
            replace BX := hide (bnext (unhide BX) hb)
            clear K hb
            have K := hide (Same_in (vec (mrg (sy z0) (sy z1))) (vec (mrg (sy z0) (sy []))) _ _ W19 (unhide Rm) (unhide Rx) (by have := vec_len (mrg (sy z0) (sy z1)); omega) (by have := vec_len (mrg (sy z0) (sy [])); omega))
            rw [cov_same (sy_good z0) (sy_good z1), hA] at K
            go_wp2_with fail
            refine (unhide K).mono ?_
            rintro e W20 ⟨rfl, k9, hk9⟩
            have hb := hide_drew hk9
            clear hk9
            replace Ra := hide ((unhide Ra).below hb)
            replace Rb := hide ((unhide Rb).below hb)
            replace Rc := hide ((unhide Rc).below hb)
            replace Rm := hide ((unhide Rm).below hb)
            replace Rl := hide ((unhide Rl).below hb)
            replace Rx := hide ((unhide Rx).below hb)
            replace BX := hide (bnext (unhide BX) hb)
            clear K hb
            clear Rx
            go_wp2
            go_meet
            case rel => exact ⟨rfl, Ra, Rb, Rc, Rm, Rl, BX⟩
    case rest =>
      clear Ra Rb Rc Rm Rl BX
      obtain ⟨rfl, Ra, Rb, Rc, Rm, Rl, BX⟩ := hcut
      have K := hide (Merge_in _ _ z1 z0 wc (unhide Rb) (unhide Ra) hz1 hz0)
      go_wp2_with fail
      refine (unhide K).mono ?_
      rintro e W10 ⟨v9, rfl, ho9, hb⟩
      obtain ⟨ax, cx, rfl⟩ := ho9.form
      have Rx := ho9.row
      clear ho9
      generalize (vec (mrg (sy z1) (sy z0))).length = nx at Rx ⊢
      replace Rx := hide Rx
      replace Ra := hide ((unhide Ra).below hb)
      replace Rb := hide ((unhide Rb).below hb)
      replace Rc := hide ((unhide Rc).below hb)
      replace Rm := hide ((unhide Rm).below hb)
      replace Rl := hide ((unhide Rl).below hb)
      replace BX := hide (bnext (unhide BX) hb)
      clear K hb
      have hdd : decide ((vec (mrg (sy z0) (sy z1))) = (vec (mrg (sy z1) (sy z0)))) = true := by
        rw [show (mrg (sy z0) (sy z1)) = (mrg (sy z1) (sy z0)) from funext fun i => by simp only [mrg, lst, sy_nil]; omega]
        simp
      have K := hide (Same_in (vec (mrg (sy z0) (sy z1))) (vec (mrg (sy z1) (sy z0))) _ _ W10 (unhide Rm) (unhide Rx) (by have := vec_len (mrg (sy z0) (sy z1)); omega) (by have := vec_len (mrg (sy z1) (sy z0)); omega))
      rw [hdd] at K
      go_wp2_with fail
      refine (unhide K).mono ?_
      rintro e W11 ⟨rfl, k9, hk9⟩
      have hb := hide_drew hk9
      clear hk9
      clear hdd
      replace Ra := hide ((unhide Ra).below hb)
      replace Rb := hide ((unhide Rb).below hb)
      replace Rc := hide ((unhide Rc).below hb)
      replace Rm := hide ((unhide Rm).below hb)
      replace Rl := hide ((unhide Rl).below hb)
      replace Rx := hide ((unhide Rx).below hb)
      replace BX := hide (bnext (unhide BX) hb)
      clear K hb
      clear Rx
      have K := hide (Least_in _ _ z1 z0 W11 (unhide Rb) (unhide Ra) hz1 hz0)
      go_wp2_with fail
      refine (unhide K).mono ?_
      rintro e W12 ⟨v9, rfl, ho9, hb⟩
      obtain ⟨ax, cx, rfl⟩ := ho9.form
      have Rx := ho9.row
      clear ho9
      generalize (vec (lst (sy z1) (sy z0))).length = nx at Rx ⊢
      replace Rx := hide Rx
      replace Ra := hide ((unhide Ra).below hb)
      replace Rb := hide ((unhide Rb).below hb)
      replace Rc := hide ((unhide Rc).below hb)
      replace Rm := hide ((unhide Rm).below hb)
      replace Rl := hide ((unhide Rl).below hb)
      replace BX := hide (bnext (unhide BX) hb)
      clear K hb
      have hdd : decide ((vec (lst (sy z0) (sy z1))) = (vec (lst (sy z1) (sy z0)))) = true := by
        rw [show (lst (sy z0) (sy z1)) = (lst (sy z1) (sy z0)) from funext fun i => by simp only [mrg, lst, sy_nil]; omega]
        simp
      have K := hide (Same_in (vec (lst (sy z0) (sy z1))) (vec (lst (sy z1) (sy z0))) _ _ W12 (unhide Rl) (unhide Rx) (by have := vec_len (lst (sy z0) (sy z1)); omega) (by have := vec_len (lst (sy z1) (sy z0)); omega))
      rw [hdd] at K
      go_wp2_with fail
      refine (unhide K).mono ?_
      rintro e W13 ⟨rfl, k9, hk9⟩
      have hb := hide_drew hk9
      clear hk9
      clear hdd
      replace Ra := hide ((unhide Ra).below hb)
      replace Rb := hide ((unhide Rb).below hb)
      replace Rc := hide ((unhide Rc).below hb)
      replace Rm := hide ((unhide Rm).below hb)
      replace Rl := hide ((unhide Rl).below hb)
      replace Rx := hide ((unhide Rx).below hb)
      replace BX := hide (bnext (unhide BX) hb)
      clear K hb
      clear Rx
      have K := hide (Merge_in _ _ (vec (mrg (sy z0) (sy z1))) z2 W13 (unhide Rm) (unhide Rc) (by have := vec_len (mrg (sy z0) (sy z1)); omega) hz2)
      rw [sy_vec ((sy_good z0).mrg (sy_good z1))] at K
      go_wp2_with fail
      refine (unhide K).mono ?_
      rintro e W14 ⟨v9, rfl, ho9, hb⟩
      obtain ⟨ax, cx, rfl⟩ := ho9.form
      have Rx := ho9.row
      clear ho9
      generalize (vec (mrg (mrg (sy z0) (sy z1)) (sy z2))).length = nx at Rx ⊢
      replace Rx := hide Rx
      replace Ra := hide ((unhide Ra).below hb)
      replace Rb := hide ((unhide Rb).below hb)
      replace Rc := hide ((unhide Rc).below hb)
      replace Rm := hide ((unhide Rm).below hb)
      replace Rl := hide ((unhide Rl).below hb)
      replace BX := hide (bnext (unhide BX) hb)
      clear K hb
      have K := hide (Merge_in _ _ z1 z2 W14 (unhide Rb) (unhide Rc) hz1 hz2)
      go_wp2_with fail
      refine (unhide K).mono ?_
      rintro e W15 ⟨v9, rfl, ho9, hb⟩
      obtain ⟨ay, cy, rfl⟩ := ho9.form
      have Ry := ho9.row
      clear ho9
      generalize (vec (mrg (sy z1) (sy z2))).length = ny at Ry ⊢
      replace Ry := hide Ry
      replace Ra := hide ((unhide Ra).below hb)
      replace Rb := hide ((unhide Rb).below hb)
      replace Rc := hide ((unhide Rc).below hb)
      replace Rm := hide ((unhide Rm).below hb)
      replace Rl := hide ((unhide Rl).below hb)
      replace Rx := hide ((unhide Rx).below hb)
      replace BX := hide (bnext (unhide BX) hb)
      clear K hb
      have K := hide (Merge_in _ _ z0 (vec (mrg (sy z1) (sy z2))) W15 (unhide Ra) (unhide Ry) hz0 (by have := vec_len (mrg (sy z1) (sy z2)); omega))
      rw [sy_vec ((sy_good z1).mrg (sy_good z2))] at K
      go_wp2_with fail
      refine (unhide K).mono ?_
      rintro e W16 ⟨v9, rfl, ho9, hb⟩
      obtain ⟨az, cz, rfl⟩ := ho9.form
      have Rz := ho9.row
      clear ho9
      generalize (vec (mrg (sy z0) (mrg (sy z1) (sy z2)))).length = nz at Rz ⊢
      replace Rz := hide Rz
      replace Ra := hide ((unhide Ra).below hb)
      replace Rb := hide ((unhide Rb).below hb)
      replace Rc := hide ((unhide Rc).below hb)
      replace Rm := hide ((unhide Rm).below hb)
      replace Rl := hide ((unhide Rl).below hb)
      replace Rx := hide ((unhide Rx).below hb)
      replace Ry := hide ((unhide Ry).below hb)
      replace BX := hide (bnext (unhide BX) hb)
      clear K hb
      have hdd : decide ((vec (mrg (mrg (sy z0) (sy z1)) (sy z2))) = (vec (mrg (sy z0) (mrg (sy z1) (sy z2))))) = true := by
        rw [show (mrg (mrg (sy z0) (sy z1)) (sy z2)) = (mrg (sy z0) (mrg (sy z1) (sy z2))) from funext fun i => by simp only [mrg, lst, sy_nil]; omega]
        simp
      have K := hide (Same_in (vec (mrg (mrg (sy z0) (sy z1)) (sy z2))) (vec (mrg (sy z0) (mrg (sy z1) (sy z2)))) _ _ W16 (unhide Rx) (unhide Rz) (by have := vec_len (mrg (mrg (sy z0) (sy z1)) (sy z2)); omega) (by have := vec_len (mrg (sy z0) (mrg (sy z1) (sy z2))); omega))
      rw [hdd] at K
      go_wp2_with fail
      refine (unhide K).mono ?_
      rintro e W17 ⟨rfl, k9, hk9⟩
      have hb := hide_drew hk9
      clear hk9
      clear hdd
      replace Ra := hide ((unhide Ra).below hb)
      replace Rb := hide ((unhide Rb).below hb)
      replace Rc := hide ((unhide Rc).below hb)
      replace Rm := hide ((unhide Rm).below hb)
      replace Rl := hide ((unhide Rl).below hb)
      replace Rx := hide ((unhide Rx).below hb)
      replace Ry := hide ((unhide Ry).below hb)
      replace Rz := hide ((unhide Rz).below hb)
      replace BX := hide (bnext (unhide BX) hb)
      clear K hb
      clear Rx
      clear Ry
      clear Rz
      have K := hide (Least_in _ _ (vec (lst (sy z0) (sy z1))) z2 W17 (unhide Rl) (unhide Rc) (by have := vec_len (lst (sy z0) (sy z1)); omega) hz2)
      rw [sy_vec ((sy_good z0).lst (sy_good z1))] at K
      go_wp2_with fail
      refine (unhide K).mono ?_
      rintro e W18 ⟨v9, rfl, ho9, hb⟩
      obtain ⟨ax, cx, rfl⟩ := ho9.form
      have Rx := ho9.row
      clear ho9
      generalize (vec (lst (lst (sy z0) (sy z1)) (sy z2))).length = nx at Rx ⊢
      replace Rx := hide Rx
      replace Ra := hide ((unhide Ra).below hb)
      replace Rb := hide ((unhide Rb).below hb)
      replace Rc := hide ((unhide Rc).below hb)
      replace Rm := hide ((unhide Rm).below hb)
      replace Rl := hide ((unhide Rl).below hb)
      replace BX := hide (bnext (unhide BX) hb)
      clear K hb
      have K := hide (Least_in _ _ z1 z2 W18 (unhide Rb) (unhide Rc) hz1 hz2)
      go_wp2_with fail
      refine (unhide K).mono ?_
      rintro e W19 ⟨v9, rfl, ho9, hb⟩
      obtain ⟨ay, cy, rfl⟩ := ho9.form
      have Ry := ho9.row
      clear ho9
      generalize (vec (lst (sy z1) (sy z2))).length = ny at Ry ⊢
      replace Ry := hide Ry
      replace Ra := hide ((unhide Ra).below hb)
      replace Rb := hide ((unhide Rb).below hb)
      replace Rc := hide ((unhide Rc).below hb)
      replace Rm := hide ((unhide Rm).below hb)
      replace Rl := hide ((unhide Rl).below hb)
      replace Rx := hide ((unhide Rx).below hb)
      replace BX := hide (bnext (unhide BX) hb)
      clear K hb
      have K := hide (Least_in _ _ z0 (vec (lst (sy z1) (sy z2))) W19 (unhide Ra) (unhide Ry) hz0 (by have := vec_len (lst (sy z1) (sy z2)); omega))
      rw [sy_vec ((sy_good z1).lst (sy_good z2))] at K
      go_wp2_with fail
      refine (unhide K).mono ?_
      rintro e W20 ⟨v9, rfl, ho9, hb⟩
      obtain ⟨az, cz, rfl⟩ := ho9.form
      have Rz := ho9.row
      clear ho9
      generalize (vec (lst (sy z0) (lst (sy z1) (sy z2)))).length = nz at Rz ⊢
      replace Rz := hide Rz
      replace Ra := hide ((unhide Ra).below hb)
      replace Rb := hide ((unhide Rb).below hb)
      replace Rc := hide ((unhide Rc).below hb)
      replace Rm := hide ((unhide Rm).below hb)
      replace Rl := hide ((unhide Rl).below hb)
      replace Rx := hide ((unhide Rx).below hb)
      replace Ry := hide ((unhide Ry).below hb)
      replace BX := hide (bnext (unhide BX) hb)
      clear K hb
      have hdd : decide ((vec (lst (lst (sy z0) (sy z1)) (sy z2))) = (vec (lst (sy z0) (lst (sy z1) (sy z2))))) = true := by
        rw [show (lst (lst (sy z0) (sy z1)) (sy z2)) = (lst (sy z0) (lst (sy z1) (sy z2))) from funext fun i => by simp only [mrg, lst, sy_nil]; omega]
        simp
      have K := hide (Same_in (vec (lst (lst (sy z0) (sy z1)) (sy z2))) (vec (lst (sy z0) (lst (sy z1) (sy z2)))) _ _ W20 (unhide Rx) (unhide Rz) (by have := vec_len (lst (lst (sy z0) (sy z1)) (sy z2)); omega) (by have := vec_len (lst (sy z0) (lst (sy z1) (sy z2))); omega))
      rw [hdd] at K
      go_wp2_with fail
      refine (unhide K).mono ?_
      rintro e W21 ⟨rfl, k9, hk9⟩
      have hb := hide_drew hk9
      clear hk9
      clear hdd
      replace Ra := hide ((unhide Ra).below hb)
      replace Rb := hide ((unhide Rb).below hb)
      replace Rc := hide ((unhide Rc).below hb)
      replace Rm := hide ((unhide Rm).below hb)
      replace Rl := hide ((unhide Rl).below hb)
      replace Rx := hide ((unhide Rx).below hb)
      replace Ry := hide ((unhide Ry).below hb)
      replace Rz := hide ((unhide Rz).below hb)
      replace BX := hide (bnext (unhide BX) hb)
      clear K hb
      clear Rx
      clear Ry
      clear Rz
      have K := hide (Merge_in _ _ (vec (lst (sy z0) (sy z1))) z2 W21 (unhide Rl) (unhide Rc) (by have := vec_len (lst (sy z0) (sy z1)); omega) hz2)
      rw [sy_vec ((sy_good z0).lst (sy_good z1))] at K
      go_wp2_with fail
      refine (unhide K).mono ?_
      rintro e W22 ⟨v9, rfl, ho9, hb⟩
      obtain ⟨ax, cx, rfl⟩ := ho9.form
      have Rx := ho9.row
      clear ho9
      generalize (vec (mrg (lst (sy z0) (sy z1)) (sy z2))).length = nx at Rx ⊢
      replace Rx := hide Rx
      replace Ra := hide ((unhide Ra).below hb)
      replace Rb := hide ((unhide Rb).below hb)
      replace Rc := hide ((unhide Rc).below hb)
      replace Rm := hide ((unhide Rm).below hb)
      replace Rl := hide ((unhide Rl).below hb)
      replace BX := hide (bnext (unhide BX) hb)
      clear K hb
      have K := hide (Merge_in _ _ z0 z2 W22 (unhide Ra) (unhide Rc) hz0 hz2)
      go_wp2_with fail
      refine (unhide K).mono ?_
      rintro e W23 ⟨v9, rfl, ho9, hb⟩
      obtain ⟨ay, cy, rfl⟩ := ho9.form
      have Ry := ho9.row
      clear ho9
      generalize (vec (mrg (sy z0) (sy z2))).length = ny at Ry ⊢
      replace Ry := hide Ry
      replace Ra := hide ((unhide Ra).below hb)
      replace Rb := hide ((unhide Rb).below hb)
      replace Rc := hide ((unhide Rc).below hb)
      replace Rm := hide ((unhide Rm).below hb)
      replace Rl := hide ((unhide Rl).below hb)
      replace Rx := hide ((unhide Rx).below hb)
      replace BX := hide (bnext (unhide BX) hb)
      clear K hb
      have K := hide (Merge_in _ _ z1 z2 W23 (unhide Rb) (unhide Rc) hz1 hz2)
      go_wp2_with fail
      refine (unhide K).mono ?_
      rintro e W24 ⟨v9, rfl, ho9, hb⟩
      obtain ⟨az, cz, rfl⟩ := ho9.form
      have Rz := ho9.row
      clear ho9
      generalize (vec (mrg (sy z1) (sy z2))).length = nz at Rz ⊢
      replace Rz := hide Rz
      replace Ra := hide ((unhide Ra).below hb)
      replace Rb := hide ((unhide Rb).below hb)
      replace Rc := hide ((unhide Rc).below hb)
      replace Rm := hide ((unhide Rm).below hb)
      replace Rl := hide ((unhide Rl).below hb)
      replace Rx := hide ((unhide Rx).below hb)
      replace Ry := hide ((unhide Ry).below hb)
      replace BX := hide (bnext (unhide BX) hb)
      clear K hb
      have K := hide (Least_in _ _ (vec (mrg (sy z0) (sy z2))) (vec (mrg (sy z1) (sy z2))) W24 (unhide Ry) (unhide Rz) (by have := vec_len (mrg (sy z0) (sy z2)); omega) (by have := vec_len (mrg (sy z1) (sy z2)); omega))
      rw [sy_vec ((sy_good z0).mrg (sy_good z2))] at K
      rw [sy_vec ((sy_good z1).mrg (sy_good z2))] at K
      go_wp2_with fail
      refine (unhide K).mono ?_
      rintro e W25 ⟨v9, rfl, ho9, hb⟩
      obtain ⟨av, cv, rfl⟩ := ho9.form
      have Rv := ho9.row
      clear ho9
      generalize (vec (lst (mrg (sy z0) (sy z2)) (mrg (sy z1) (sy z2)))).length = nv at Rv ⊢
      replace Rv := hide Rv
      replace Ra := hide ((unhide Ra).below hb)
      replace Rb := hide ((unhide Rb).below hb)
      replace Rc := hide ((unhide Rc).below hb)
      replace Rm := hide ((unhide Rm).below hb)
      replace Rl := hide ((unhide Rl).below hb)
      replace Rx := hide ((unhide Rx).below hb)
      replace Ry := hide ((unhide Ry).below hb)
      replace Rz := hide ((unhide Rz).below hb)
      replace BX := hide (bnext (unhide BX) hb)
      clear K hb
      have hdd : decide ((vec (mrg (lst (sy z0) (sy z1)) (sy z2))) = (vec (lst (mrg (sy z0) (sy z2)) (mrg (sy z1) (sy z2))))) = true := by
        rw [show (mrg (lst (sy z0) (sy z1)) (sy z2)) = (lst (mrg (sy z0) (sy z2)) (mrg (sy z1) (sy z2))) from funext fun i => by simp only [mrg, lst, sy_nil]; omega]
        simp
      have K := hide (Same_in (vec (mrg (lst (sy z0) (sy z1)) (sy z2))) (vec (lst (mrg (sy z0) (sy z2)) (mrg (sy z1) (sy z2)))) _ _ W25 (unhide Rx) (unhide Rv) (by have := vec_len (mrg (lst (sy z0) (sy z1)) (sy z2)); omega) (by have := vec_len (lst (mrg (sy z0) (sy z2)) (mrg (sy z1) (sy z2))); omega))
      rw [hdd] at K
      go_wp2_with fail
      refine (unhide K).mono ?_
      rintro e W26 ⟨rfl, k9, hk9⟩
      have hb := hide_drew hk9
      clear hk9
      clear hdd
      replace Ra := hide ((unhide Ra).below hb)
      replace Rb := hide ((unhide Rb).below hb)
      replace Rc := hide ((unhide Rc).below hb)
      replace Rm := hide ((unhide Rm).below hb)
      replace Rl := hide ((unhide Rl).below hb)
      replace Rx := hide ((unhide Rx).below hb)
      replace Ry := hide ((unhide Ry).below hb)
      replace Rz := hide ((unhide Rz).below hb)
      replace Rv := hide ((unhide Rv).below hb)
      replace BX := hide (bnext (unhide BX) hb)
      clear K hb
      clear Rx
      clear Ry
      clear Rz
      clear Rv
      have K := hide (Least_in _ _ (vec (mrg (sy z0) (sy z1))) z2 W26 (unhide Rm) (unhide Rc) (by have := vec_len (mrg (sy z0) (sy z1)); omega) hz2)
      rw [sy_vec ((sy_good z0).mrg (sy_good z1))] at K
      go_wp2_with fail
      refine (unhide K).mono ?_
      rintro e W27 ⟨v9, rfl, ho9, hb⟩
      obtain ⟨ax, cx, rfl⟩ := ho9.form
      have Rx := ho9.row
      clear ho9
      generalize (vec (lst (mrg (sy z0) (sy z1)) (sy z2))).length = nx at Rx ⊢
      replace Rx := hide Rx
      replace Ra := hide ((unhide Ra).below hb)
      replace Rb := hide ((unhide Rb).below hb)
      replace Rc := hide ((unhide Rc).below hb)
      replace Rm := hide ((unhide Rm).below hb)
      replace Rl := hide ((unhide Rl).below hb)
      replace BX := hide (bnext (unhide BX) hb)
      clear K hb
      have K := hide (Least_in _ _ z0 z2 W27 (unhide Ra) (unhide Rc) hz0 hz2)
      go_wp2_with fail
      refine (unhide K).mono ?_
      rintro e W28 ⟨v9, rfl, ho9, hb⟩
      obtain ⟨ay, cy, rfl⟩ := ho9.form
      have Ry := ho9.row
      clear ho9
      generalize (vec (lst (sy z0) (sy z2))).length = ny at Ry ⊢
      replace Ry := hide Ry
      replace Ra := hide ((unhide Ra).below hb)
      replace Rb := hide ((unhide Rb).below hb)
      replace Rc := hide ((unhide Rc).below hb)
      replace Rm := hide ((unhide Rm).below hb)
      replace Rl := hide ((unhide Rl).below hb)
      replace Rx := hide ((unhide Rx).below hb)
      replace BX := hide (bnext (unhide BX) hb)
      clear K hb
      have K := hide (Least_in _ _ z1 z2 W28 (unhide Rb) (unhide Rc) hz1 hz2)
      go_wp2_with fail
      refine (unhide K).mono ?_
      rintro e W29 ⟨v9, rfl, ho9, hb⟩
      obtain ⟨az, cz, rfl⟩ := ho9.form
      have Rz := ho9.row
      clear ho9
      generalize (vec (lst (sy z1) (sy z2))).length = nz at Rz ⊢
      replace Rz := hide Rz
      replace Ra := hide ((unhide Ra).below hb)
      replace Rb := hide ((unhide Rb).below hb)
      replace Rc := hide ((unhide Rc).below hb)
      replace Rm := hide ((unhide Rm).below hb)
      replace Rl := hide ((unhide Rl).below hb)
      replace Rx := hide ((unhide Rx).below hb)
      replace Ry := hide ((unhide Ry).below hb)
      replace BX := hide (bnext (unhide BX) hb)
      clear K hb
      have K := hide (Merge_in _ _ (vec (lst (sy z0) (sy z2))) (vec (lst (sy z1) (sy z2))) W29 (unhide Ry) (unhide Rz) (by have := vec_len (lst (sy z0) (sy z2)); omega) (by have := vec_len (lst (sy z1) (sy z2)); omega))
      rw [sy_vec ((sy_good z0).lst (sy_good z2))] at K
      rw [sy_vec ((sy_good z1).lst (sy_good z2))] at K
      go_wp2_with fail
      refine (unhide K).mono ?_
      rintro e W30 ⟨v9, rfl, ho9, hb⟩
      obtain ⟨av, cv, rfl⟩ := ho9.form
      have Rv := ho9.row
      clear ho9
      generalize (vec (mrg (lst (sy z0) (sy z2)) (lst (sy z1) (sy z2)))).length = nv at Rv ⊢
      replace Rv := hide Rv
      replace Ra := hide ((unhide Ra).below hb)
      replace Rb := hide ((unhide Rb).below hb)
      replace Rc := hide ((unhide Rc).below hb)
      replace Rm := hide ((unhide Rm).below hb)
      replace Rl := hide ((unhide Rl).below hb)
      replace Rx := hide ((unhide Rx).below hb)
      replace Ry := hide ((unhide Ry).below hb)
      replace Rz := hide ((unhide Rz).below hb)
      replace BX := hide (bnext (unhide BX) hb)
      clear K hb
      have hdd : decide ((vec (lst (mrg (sy z0) (sy z1)) (sy z2))) = (vec (mrg (lst (sy z0) (sy z2)) (lst (sy z1) (sy z2))))) = true := by
        rw [show (lst (mrg (sy z0) (sy z1)) (sy z2)) = (mrg (lst (sy z0) (sy z2)) (lst (sy z1) (sy z2))) from funext fun i => by simp only [mrg, lst, sy_nil]; omega]
        simp
      have K := hide (Same_in (vec (lst (mrg (sy z0) (sy z1)) (sy z2))) (vec (mrg (lst (sy z0) (sy z2)) (lst (sy z1) (sy z2)))) _ _ W30 (unhide Rx) (unhide Rv) (by have := vec_len (lst (mrg (sy z0) (sy z1)) (sy z2)); omega) (by have := vec_len (mrg (lst (sy z0) (sy z2)) (lst (sy z1) (sy z2))); omega))
      rw [hdd] at K
      go_wp2_with fail
      refine (unhide K).mono ?_
      rintro e W31 ⟨rfl, k9, hk9⟩
      have hb := hide_drew hk9
      clear hk9
      clear hdd
      replace Ra := hide ((unhide Ra).below hb)
      replace Rb := hide ((unhide Rb).below hb)
      replace Rc := hide ((unhide Rc).below hb)
      replace Rm := hide ((unhide Rm).below hb)
      replace Rl := hide ((unhide Rl).below hb)
      replace Rx := hide ((unhide Rx).below hb)
      replace Ry := hide ((unhide Ry).below hb)
      replace Rz := hide ((unhide Rz).below hb)
      replace Rv := hide ((unhide Rv).below hb)
      replace BX := hide (bnext (unhide BX) hb)
      clear K hb
      clear Rx
      clear Ry
      clear Rz
      clear Rv
      have q1 := sum_in ((sy_good z0).mrg (sy_good z1))
      have q2 := sum_in ((sy_good z0).lst (sy_good z1))
      have q3 := sum_in (sy_good z0)
      have q4 := sum_in (sy_good z1)
      have q5 : sum (mrg (sy z0) (sy z1)) + sum (lst (sy z0) (sy z1)) = sum (sy z0) + sum (sy z1) := sumN_add _ _ 17
      obtain ⟨S1, hS1⟩ : ∃ S, sum (mrg (sy z0) (sy z1)) = S := ⟨_, rfl⟩
      obtain ⟨S2, hS2⟩ : ∃ S, sum (lst (sy z0) (sy z1)) = S := ⟨_, rfl⟩
      obtain ⟨S3, hS3⟩ : ∃ S, sum (sy z0) = S := ⟨_, rfl⟩
      obtain ⟨S4, hS4⟩ : ∃ S, sum (sy z1) = S := ⟨_, rfl⟩
      rw [hS1] at q1 q5
      rw [hS2] at q2 q5
      rw [hS3] at q3 q5
      rw [hS4] at q4 q5
      replace hS1 := hide hS1
      replace hS2 := hide hS2
      replace hS3 := hide hS3
      replace hS4 := hide hS4
      have K := hide (Sum_in _ (vec (mrg (sy z0) (sy z1))) W31 (unhide Rm) (by have := vec_len (mrg (sy z0) (sy z1)); omega))
      rw [sy_vec ((sy_good z0).mrg (sy_good z1))] at K
      rw [unhide hS1] at K
      go_wp2_with fail
      refine (unhide K).mono ?_
      rintro e W32 ⟨rfl, hb⟩
      replace Ra := hide ((unhide Ra).below hb)
      replace Rb := hide ((unhide Rb).below hb)
      replace Rc := hide ((unhide Rc).below hb)
      replace Rm := hide ((unhide Rm).below hb)
      replace Rl := hide ((unhide Rl).below hb)
      replace BX := hide (bnext (unhide BX) hb)
      clear K hb
      have K := hide (Sum_in _ (vec (lst (sy z0) (sy z1))) W32 (unhide Rl) (by have := vec_len (lst (sy z0) (sy z1)); omega))
      rw [sy_vec ((sy_good z0).lst (sy_good z1))] at K
      rw [unhide hS2] at K
      go_wp2_with fail
      refine (unhide K).mono ?_
      rintro e W33 ⟨rfl, hb⟩
      replace Ra := hide ((unhide Ra).below hb)
      replace Rb := hide ((unhide Rb).below hb)
      replace Rc := hide ((unhide Rc).below hb)
      replace Rm := hide ((unhide Rm).below hb)
      replace Rl := hide ((unhide Rl).below hb)
      replace BX := hide (bnext (unhide BX) hb)
      clear K hb
      have K := hide (Sum_in _ z0 W33 (unhide Ra) hz0)
      rw [unhide hS3] at K
      go_wp2_with fail
      refine (unhide K).mono ?_
      rintro e W34 ⟨rfl, hb⟩
      replace Ra := hide ((unhide Ra).below hb)
      replace Rb := hide ((unhide Rb).below hb)
      replace Rc := hide ((unhide Rc).below hb)
      replace Rm := hide ((unhide Rm).below hb)
      replace Rl := hide ((unhide Rl).below hb)
      replace BX := hide (bnext (unhide BX) hb)
      clear K hb
      have K := hide (Sum_in _ z1 W34 (unhide Rb) hz1)
      rw [unhide hS4] at K
      go_wp2_with fail
      refine (unhide K).mono ?_
      rintro e W35 ⟨rfl, hb⟩
      replace Ra := hide ((unhide Ra).below hb)
      replace Rb := hide ((unhide Rb).below hb)
      replace Rc := hide ((unhide Rc).below hb)
      replace Rm := hide ((unhide Rm).below hb)
      replace Rl := hide ((unhide Rl).below hb)
      replace BX := hide (bnext (unhide BX) hb)
      clear K hb
      have hw1 : wrap64 (S1 + S2) = S1 + S2 := IntWalk.wrap64_in _ (by omega)
      have hw2 : IntKind.i64.wrap (S1 + S2) = S1 + S2 := IntWalk.i64_in _ (by omega)
      have hw3 : wrap64 (S3 + S4) = S3 + S4 := IntWalk.wrap64_in _ (by omega)
      have hw4 : IntKind.i64.wrap (S3 + S4) = S3 + S4 := IntWalk.i64_in _ (by omega)
      have hq : (S1 + S2 == S3 + S4) = true := by rw [beq_iff_eq]; exact q5
      clear q5
      have K := hide (known_in W35)
      go_wp2_with fail
      refine (unhide K).mono ?_
      rintro e W36 ⟨rfl, hb⟩
      replace Ra := hide ((unhide Ra).below hb)
      replace Rb := hide ((unhide Rb).below hb)
      replace Rc := hide ((unhide Rc).below hb)
      replace Rm := hide ((unhide Rm).below hb)
      replace Rl := hide ((unhide Rl).below hb)
      replace BX := hide (bnext (unhide BX) hb)
      clear K hb
      go_wp2
      go_ret
      exact ⟨rfl, unhide BX⟩

theorem own : ownKnob Try.prog.godebug = none := by kernel_rfl
theorem laidOut2 : laidOutB Try.prog = true := by kernel_rfl

set_option maxRecDepth 100000 in
theorem lifted (os : Os) (started : os.Started) (H : Type) (enc : TypeId × Value → H) :
    ReturnsInHanded {} Try.checked os 6 .any (Rows.vectorLatticeSpec.pre6 enc Try.prog Try.f6 Rows.vectorLatticeRow.domain false) (Rows.vectorLatticeSpec.post enc Try.prog Try.f6 false true false false) := by
  refine returnsInHanded_of_change (C := Try.checked) own started (by kernel_rfl) Try.func6
    (ChangeSpec.witness6 (enc := enc) (C := Try.checked) false ⟨#[], #[.slice none 0 0, .slice none 0 0, .slice none 0 0], []⟩ 8 (by kernel_rfl) (by kernel_rfl) (by kernel_rfl) (by kernel_rfl)) ?_
  intro W base args ds gs before hval0 hW hcnd _
  have hval : ∀ (j : Nat) t v, Try.f6.params[j]? = some t → args[j]? = some v → Value.okWide Try.prog W .any base t v := hval0
  have hW' := hW
  obtain ⟨p, q, hA0, hV, rfl, hfz, hnd⟩ := hW
  have hA : DataW.TrodAll enc Try.prog W 0 (fun _ => true) true Try.f6.params.toList args.toList ds p := hA0
  rw [Try.params6] at hA hval
  obtain ⟨v0, vs0, d0, ds0, p0, q0, hargs, rfl, rfl, h0, r0⟩ := trodAll_cons hA
  obtain ⟨v1, vs1, d1, ds1, p1, q1, rfl, rfl, rfl, h1, r1⟩ := trodAll_cons r0
  obtain ⟨v2, vs2, d2, ds2, p2, q2, rfl, rfl, rfl, h2, r2⟩ := trodAll_cons r1
  obtain ⟨rfl, rfl, rfl⟩ := trodAll_nil r2
  obtain rfl : args = #[v0, v1, v2] := by cases args; simp_all
  obtain ⟨rfl, rfl⟩ := trodVars_none hV
  obtain ⟨a0, len0, cap0, rfl⟩ := okWide_slice Try.underlying23 (hval 0 23 v0 rfl rfl)
  have k0 := h0
  have lt0 : ∀ x ∈ p0, x.block < W.heap.size := by obtain ⟨m, hm⟩ := k0; exact DataW.trod_lt m _ _ _ hm
  obtain ⟨z0, w0⟩ : ∃ l : List (Int × Int), RI W (.slice a0 len0 cap0) l ∧ l.length = len0 ∧ len0 ≤ maxLen ∧ ∀ e ∈ l, idIn e := by
    obtain ⟨fuel, hf⟩ := h0
    simp only [Value.cells] at hf
    exact open_dots hf
  obtain ⟨a1, len1, cap1, rfl⟩ := okWide_slice Try.underlying23 (hval 1 23 v1 rfl rfl)
  have k1 := h1
  have lt1 : ∀ x ∈ p1, x.block < W.heap.size := by obtain ⟨m, hm⟩ := k1; exact DataW.trod_lt m _ _ _ hm
  obtain ⟨z1, w1⟩ : ∃ l : List (Int × Int), RI W (.slice a1 len1 cap1) l ∧ l.length = len1 ∧ len1 ≤ maxLen ∧ ∀ e ∈ l, idIn e := by
    obtain ⟨fuel, hf⟩ := h1
    simp only [Value.cells] at hf
    exact open_dots hf
  obtain ⟨a2, len2, cap2, rfl⟩ := okWide_slice Try.underlying23 (hval 2 23 v2 rfl rfl)
  have k2 := h2
  have lt2 : ∀ x ∈ p2, x.block < W.heap.size := by obtain ⟨m, hm⟩ := k2; exact DataW.trod_lt m _ _ _ hm
  obtain ⟨z2, w2⟩ : ∃ l : List (Int × Int), RI W (.slice a2 len2 cap2) l ∧ l.length = len2 ∧ len2 ≤ maxLen ∧ ∀ e ∈ l, idIn e := by
    obtain ⟨fuel, hf⟩ := h2
    simp only [Value.cells] at hf
    exact open_dots hf
  clear hA0 hval0
  refine (walk a0 len0 cap0 z0 a1 len1 cap1 z1 a2 len2 cap2 z2 W w0 w1 w2).mono fun e W' ⟨he, bel⟩ => ?_
  subst he
  exact ⟨_, rfl, _, _, _, [], _, [], hW', trodAll_mk1 (shut_bool Try.underlying4 _), (trodAll_cons_mk (Below.trod laidOut2 (by kernel_rfl) (of_decide_eq_true (by kernel_rfl)) k0 bel lt0) (trodAll_cons_mk (Below.trod laidOut2 (by kernel_rfl) (of_decide_eq_true (by kernel_rfl)) k1 bel lt1) (trodAll_cons_mk (Below.trod laidOut2 (by kernel_rfl) (of_decide_eq_true (by kernel_rfl)) k2 bel lt2) trodAll_mk0))), rfl, bel.frame _, fun h => by cases h⟩

theorem over : Rows.vectorLatticeRow.holds Try.pinned (OpenSpec.ofChange Rows.vectorLatticeSpec) :=
  OpenClaim.holds_of_wide 6 Try.f6 rfl rfl rfl rfl rfl rfl rfl ⟨rfl, rfl, rfl, rfl, rfl⟩ rfl rfl rfl rfl rfl (by kernel_rfl) Try.func6 (by kernel_rfl)
    (of_decide_eq_true (by kernel_rfl)) (by unfold Func.isWrapper; first | (rw [if_pos (by decide +kernel)]; kernel_rfl) | (rw [if_neg (by decide +kernel)]; exact ⟨rfl, rfl⟩))
    (fun os started H enc _ => lifted os started H enc)

end LVectorLattice

theorem vectorLattice_holds : Rows.VectorLatticeSaid := LVectorLattice.over

end Go.Proofs.Ytmjhkgpbemjjkaa
