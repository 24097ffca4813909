/-
  Chapter 7's law VectorAdds returns true for every list of Dots and every two Dots, and leaves its arguments as they were; no condition.
-/
import Derived.Test.YtmjhkgpbemjjkaaRows
import Derived.WalkKit
import Derived.ProofKit
import Derived.OpenShut
import Derived.ShutString
import Derived.ChangeOld
import Derived.Below
import Derived.Test.YtmjhkgpbemjjkaaZV8
import Derived.Test.YtmjhkgpbemjjkaaZOp
import Derived.Test.YtmjhkgpbemjjkaaZRegG
import Derived.Deep.CutRange
import Derived.Deep.RegionWith
set_option linter.unusedVariables false
set_option linter.unusedSimpArgs false
namespace Go.Proofs.Ytmjhkgpbemjjkaa
namespace LVectorAdds
open Go.ChangeShapes Go.WideShapes Go.ChangeAt Go.RowKit Go.Lib
open Go.ChangeMaps (open_string shut_string)

theorem has_add {l : List (Int × Int)} {k : Nat} {d1 o0 o1 : Int} (h1 : 1 ≤ k) (h2 : k ≤ 16) (h3 : 1 ≤ d1) (h4 : d1 ≤ 2147483647) (h5 : d1 - 1 = sy l k) : hasV (vec (put1 (sy l) k d1)) (o0, o1) = (hasV l (o0, o1) || decide ((o0, o1) = ((k : Int), d1))) := by
  have hg := (sy_good l).put h1 h2 (show 0 ≤ d1 by omega) h4
  unfold hasV getV
  rw [sy_vec hg, Bool.eq_iff_iff]
  simp only [decide_eq_true_eq, Bool.or_eq_true, Prod.mk.injEq]
  by_cases hr : 1 ≤ o0 ∧ o0 ≤ 16
  · rw [if_pos hr, if_pos hr]
    by_cases hk : o0.toNat = k
    · have he : o0 = (k : Int) := by omega
      rw [hk, put1_self]
      omega
    · rw [put1_other _ _ _ _ hk]
      omega
  · rw [if_neg hr, if_neg hr]
    omega

theorem cov_add {l : List (Int × Int)} {k : Nat} {d1 : Int} (h1 : 1 ≤ k) (h2 : k ≤ 16) (h3 : 1 ≤ d1) (h4 : d1 ≤ 2147483647) (h5 : d1 - 1 = sy l k) : cov (sy (vec (put1 (sy l) k d1))) (sy l) = true := by
  have hg := (sy_good l).put h1 h2 (show 0 ≤ d1 by omega) h4
  rw [sy_vec hg, cov_iff hg (sy_good l)]
  intro i
  by_cases hk : i = k
  · subst hk; rw [put1_self]; omega
  · rw [put1_other _ _ _ _ hk]; omega
theorem sum_add {l : List (Int × Int)} {k : Nat} {d1 : Int} (h1 : 1 ≤ k) (h2 : k ≤ 16) (h3 : 1 ≤ d1) (h4 : d1 ≤ 2147483647) (h5 : d1 - 1 = sy l k) : sum (sy (vec (put1 (sy l) k d1))) = sum (sy l) + 1 := by
  have hg := (sy_good l).put h1 h2 (show 0 ≤ d1 by omega) h4
  rw [sy_vec hg]
  unfold sum
  rw [sumN_put, if_pos (by omega)]
  omega
theorem sum_in (l : List (Int × Int)) : 0 ≤ sum (sy l) ∧ sum (sy l) ≤ 36507222016 := by
  have := sumN_in (sy_good l) 17
  unfold sum
  omega

set_option maxRecDepth 100000 in
set_option maxHeartbeats 4000000 in
theorem walk (a0 : Option Addr) (len0 cap0 : Nat) (z0 : List (Int × Int)) (d0 d1 o0 o1 : Int) (w : World) (w0 : RI w (.slice a0 len0 cap0) z0 ∧ z0.length = len0 ∧ len0 ≤ maxLen ∧ ∀ e ∈ z0, idIn e) (w1 : idIn (d0, d1)) (w2 : idIn (o0, o1)) :
    Calls Try.prog 7 #[.slice a0 len0 cap0, .agg #[.int .i64 d0, .int .i64 d1], .agg #[.int .i64 o0, .int .i64 o1]] w fun e W => e = .returned (.bool true) ∧ Below w.heap.size w W := by
  obtain ⟨h0, hl0, _, _⟩ := w0
  have hd1 : d1 ≤ 9223372036854775807 := w1.2.2
  clear w1 w2
  obtain ⟨X, hX⟩ : ∃ X, (w.alloc (.cells #[.int .i64 d0, .int .i64 d1] 25)).alloc (.cells #[.int .i64 o0, .int .i64 o1] 25) = X := ⟨_, rfl⟩
  have BX : Below w.heap.size w X := by rw [← hX]; exact ballc (ballc (Below.refl _ _) _) _
  have XD : Bx X w.heap.size 25 #[.int .i64 d0, .int .i64 d1] := by rw [← hX]; exact (Bx.new w _ _).below (ballc (Below.refl _ _) _)
  have XO : Bx X (w.heap.size + 1) 25 #[.int .i64 o0, .int .i64 o1] := by
    rw [← hX]
    have := Bx.new (w.alloc (.cells #[.int .i64 d0, .int .i64 d1] 25)) 25 #[.int .i64 o0, .int .i64 o1]
    rw [show (w.alloc (.cells #[.int .i64 d0, .int .i64 d1] 25)).heap.size = w.heap.size + 1 by simp] at this
    exact this
  have HV := hide (h0.below BX)
  clear h0
  by_cases hbig : 4000 < len0
  · have hbig' : (4000 : Int) < (len0 : Int) := by omega
    have K := hide (known_in X)
    replace BX := hide BX
    go_enter Try.func7, Try.ntmps7
    go_wp2_with fail
    refine (unhide K).mono ?_
    rintro e W1 ⟨rfl, hb⟩
    replace hb := hide (bnext (unhide BX) hb)
    go_wp2
    go_ret
    exact ⟨rfl, unhide hb⟩
  · have hbig' : ¬ (4000 : Int) < (len0 : Int) := by omega
    have hlz : z0.length ≤ 140737488355328 := by omega
    have K := hide (Get_in _ z0 d0 X (unhide HV) hlz)
    have XD0 := XD.cell 0 _ rfl
    have XDl := XD.lt
    replace BX := hide BX
    replace XD := hide XD
    replace XO := hide XO
    obtain ⟨N, hN⟩ : ∃ N, getV z0 d0 = N := ⟨_, rfl⟩
    rw [hN] at K
    replace hN := hide hN
    replace hl0 := hide hl0
    go_enter Try.func7, Try.ntmps7
    go_wp2_with fail
    refine (unhide K).mono ?_
    rintro e W1 ⟨rfl, hb⟩
    replace BX := hide (bnext (unhide BX) hb)
    replace XD := (unhide XD).below hb
    replace XO := hide ((unhide XO).below hb)
    replace HV := hide ((unhide HV).below hb)
    have y0 := XD.cell 0 _ rfl
    have y1 := XD.cell 1 _ rfl
    have yl := XD.lt
    clear K XD0 XDl hX hb
    have K := hide (Add_in _ z0 d0 d1 W1 (unhide HV) hlz hd1)
    replace XD := hide XD
    rcases addV_ways z0 d0 d1 with ⟨h1, e⟩ | ⟨h1, h2, e⟩ | ⟨h1, h2, h3, e⟩ | ⟨h1, h2, h3, h4, e⟩ | ⟨h1, h2, h3, h4, e⟩
    all_goals
      rw [e] at K
      clear e
      go_wp2_with fail
      refine (unhide K).mono ?_
      rintro e W2 ⟨v2, rfl, ho2, hb⟩
      obtain ⟨a2, c2, hv2⟩ := ho2.form
      subst hv2
      replace BX := hide (bnext (unhide BX) hb)
      replace XD := (unhide XD).below hb
      replace XO := (unhide XO).below hb
      replace HV := hide ((unhide HV).below hb)
      clear y0 y1 yl
      have y0 := XD.cell 0 _ rfl
      have y1 := XD.cell 1 _ rfl
      have yl := XD.lt
      replace XD := hide XD
      replace XO := hide XO
      clear K hb
    · have hnot : ¬ (1 ≤ d0 ∧ d0 ≤ 16) := by unfold isT at h1; simpa using h1
      have K := hide (known_in W2)
      simp only [List.length_nil]
      clear h1
      by_cases hlo : d0 < 1
      · clear hnot
        go_wp2_with (go_at_call 9; refine (unhide K).mono ?_; rintro e W3 ⟨rfl, hb⟩; replace hb := hide hb)
        go_ret
        exact ⟨rfl, bnext (unhide BX) (unhide hb)⟩
      · have hhi : 16 < d0 := by omega
        clear hnot
        go_wp2_with (go_at_call 9; refine (unhide K).mono ?_; rintro e W3 ⟨rfl, hb⟩; replace hb := hide hb)
        go_ret
        exact ⟨rfl, bnext (unhide BX) (unhide hb)⟩
    all_goals
      obtain ⟨r1, r2⟩ : 1 ≤ d0 ∧ d0 ≤ 16 := by unfold isT at h1; simpa using h1
      have r1' : ¬ d0 < 1 := by omega
      have r2' : ¬ 16 < d0 := by omega
      clear h1
    · have K := hide (known_in W2)
      simp only [List.length_nil]
      go_wp2_with (go_at_call 9; refine (unhide K).mono ?_; rintro e W3 ⟨rfl, hb⟩; replace hb := hide hb)
      go_ret
      exact ⟨rfl, bnext (unhide BX) (unhide hb)⟩
    · have K := hide (known_in W2)
      simp only [List.length_nil]
      go_wp2_with (go_at_call 9; refine (unhide K).mono ?_; rintro e W3 ⟨rfl, hb⟩; replace hb := hide hb)
      go_ret
      exact ⟨rfl, bnext (unhide BX) (unhide hb)⟩
    · have hNs : N = sy z0 d0.toNat := by rw [← unhide hN]; unfold getV; rw [if_pos ⟨r1, r2⟩]
      have hNi := (sy_good z0).hi d0.toNat
      have hNl := (sy_good z0).lo d0.toNat
      rw [← hNs] at h4 hNi hNl
      have hq : (d1 == N + 1) = false := by rw [beq_eq_false_iff_ne]; omega
      have hwx : wrap64 (N + 1) = N + 1 := IntWalk.wrap64_in _ (by omega)
      have hwy : IntKind.i64.wrap (N + 1) = N + 1 := IntWalk.i64_in _ (by omega)
      have K := hide (known_in W2)
      simp only [List.length_nil]
      clear h4 hNs
      go_wp2_with (go_at_call 9; refine (unhide K).mono ?_; rintro e W3 ⟨rfl, hb⟩; replace hb := hide hb)
      go_ret
      exact ⟨rfl, bnext (unhide BX) (unhide hb)⟩
    · have hNs : N = sy z0 d0.toNat := by rw [← unhide hN]; unfold getV; rw [if_pos ⟨r1, r2⟩]
      have hNi := (sy_good z0).hi d0.toNat
      have hNl := (sy_good z0).lo d0.toNat
      obtain ⟨k, rfl⟩ : ∃ k : Nat, d0 = (k : Int) := ⟨d0.toNat, by omega⟩
      rw [Int.toNat_natCast] at *
      have e1 := has_add (o0 := (k : Int)) (o1 := d1) (by omega) (by omega) h2 h3 h4
      have e2 := cov_add (by omega) (by omega) h2 h3 h4
      have e3 := sum_add (by omega) (by omega) h2 h3 h4
      have e4 := chk_vec ((sy_good z0).put (i := k) (x := d1) (by omega) (by omega) (by omega) h3)
      have e5 := has_add (o0 := o0) (o1 := o1) (by omega) (by omega) h2 h3 h4
      have e6 : hasV z0 ((k : Int), d1) = false := by unfold hasV; simp only; rw [unhide hN]; simp; omega
      rw [e6, show decide (((k : Int), d1) = ((k : Int), d1)) = true by simp] at e1
      have hsu := sum_in z0
      rw [← hNs] at h4 hNi hNl
      have hq : (d1 == N + 1) = true := by rw [beq_iff_eq]; omega
      have hwx : wrap64 (N + 1) = N + 1 := IntWalk.wrap64_in _ (by omega)
      have hwy : IntKind.i64.wrap (N + 1) = N + 1 := IntWalk.i64_in _ (by omega)
      have hlx := vec_len (put1 (sy z0) k d1)
      generalize vec (put1 (sy z0) k d1) = x2 at *
      replace hlx : x2.length ≤ 140737488355328 := by omega
      have HO := hide ho2.row
      clear ho2 h4 hNs
      have K := hide (Check_in _ x2 W2 (unhide HO) hlx)
      rw [e4] at K
      go_wp2_with fail
      refine (unhide K).mono ?_
      rintro e W3 ⟨rfl, hb⟩
      replace BX := hide (bnext (unhide BX) hb)
      replace HV := hide ((unhide HV).below hb)
      replace HO := hide ((unhide HO).below hb)
      replace XD := (unhide XD).below hb
      replace XO := hide ((unhide XO).below hb)
      clear y0 y1 yl K
      have y0 := XD.cell 0 _ rfl
      have y1 := XD.cell 1 _ rfl
      have yl := XD.lt
      replace XD := hide XD
      clear hb
      have K := hide (Has_in _ z0 k d1 W3 (unhide HV) hlz)
      rw [e6] at K
      go_wp2_with fail
      refine (unhide K).mono ?_
      rintro e W4 ⟨rfl, hb⟩
      replace BX := hide (bnext (unhide BX) hb)
      replace HV := hide ((unhide HV).below hb)
      replace HO := hide ((unhide HO).below hb)
      replace XD := (unhide XD).below hb
      replace XO := hide ((unhide XO).below hb)
      clear y0 y1 yl K
      have y0 := XD.cell 0 _ rfl
      have y1 := XD.cell 1 _ rfl
      have yl := XD.lt
      replace XD := hide XD
      clear hb
      have K := hide (Has_in _ x2 k d1 W4 (unhide HO) hlx)
      rw [e1] at K
      simp only [Bool.false_or] at K
      go_wp2_with fail
      refine (unhide K).mono ?_
      rintro e W5 ⟨rfl, hb⟩
      replace BX := hide (bnext (unhide BX) hb)
      replace HV := hide ((unhide HV).below hb)
      replace HO := hide ((unhide HO).below hb)
      replace XD := (unhide XD).below hb
      replace XO := hide ((unhide XO).below hb)
      clear y0 y1 yl K
      have y0 := XD.cell 0 _ rfl
      have y1 := XD.cell 1 _ rfl
      have yl := XD.lt
      replace XD := hide XD
      clear hb
      have K := hide (Sum_in _ x2 W5 (unhide HO) hlx)
      rw [e3] at K
      go_wp2_with fail
      refine (unhide K).mono ?_
      rintro e W6 ⟨rfl, hb⟩
      replace BX := hide (bnext (unhide BX) hb)
      replace HV := hide ((unhide HV).below hb)
      replace HO := hide ((unhide HO).below hb)
      replace XD := (unhide XD).below hb
      replace XO := hide ((unhide XO).below hb)
      clear y0 y1 yl K
      have y0 := XD.cell 0 _ rfl
      have y1 := XD.cell 1 _ rfl
      have yl := XD.lt
      replace XD := hide XD
      clear hb
      have K := hide (Sum_in _ z0 W6 (unhide HV) hlz)
      generalize sum (sy z0) = S at *
      have hwa : wrap64 (S + 1) = S + 1 := IntWalk.wrap64_in _ (by omega)
      have hwb : IntKind.i64.wrap (S + 1) = S + 1 := IntWalk.i64_in _ (by omega)
      go_wp2_with fail
      refine (unhide K).mono ?_
      rintro e W7 ⟨rfl, hb⟩
      replace BX := hide (bnext (unhide BX) hb)
      replace HV := hide ((unhide HV).below hb)
      replace HO := hide ((unhide HO).below hb)
      replace XD := (unhide XD).below hb
      replace XO := hide ((unhide XO).below hb)
      clear y0 y1 yl K
      have y0 := XD.cell 0 _ rfl
      have y1 := XD.cell 1 _ rfl
      have yl := XD.lt
      replace XD := hide XD
      clear hb
      have K := hide (Covers_in _ _ x2 z0 W7 (unhide HO) (unhide HV) hlx hlz)
      rw [e2] at K
      go_wp2_with fail
      refine (unhide K).mono ?_
      rintro e W8 ⟨rfl, hb⟩
      replace BX := hide (bnext (unhide BX) hb)
      replace HV := hide ((unhide HV).below hb)
      replace HO := hide ((unhide HO).below hb)
      replace XD := (unhide XD).below hb
      replace XO := hide ((unhide XO).below hb)
      clear y0 y1 yl K
      have y0 := XD.cell 0 _ rfl
      have y1 := XD.cell 1 _ rfl
      have yl := XD.lt
      replace XD := hide XD
      clear hb
      clear e1 e2 e3 e4 e6 hq hwx hwy hwa hwb y0 y1
      have C0 : ∀ W', Below W8.heap.size W8 W' → W'.cell? ⟨w.heap.size, 0, none⟩ = some (.int .i64 (k : Int)) ∧ W'.cell? ⟨w.heap.size, 1, none⟩ = some (.int .i64 d1) := fun W' hb => ⟨((unhide XD).below hb).cell 0 _ rfl, ((unhide XD).below hb).cell 1 _ rfl⟩
      have C1 : ∀ W', Below W8.heap.size W8 W' → W'.cell? ⟨w.heap.size + 1, 0, none⟩ = some (.int .i64 o0) ∧ W'.cell? ⟨w.heap.size + 1, 1, none⟩ = some (.int .i64 o1) := fun W' hb => ⟨((unhide XO).below hb).cell 0 _ rfl, ((unhide XO).below hb).cell 1 _ rfl⟩
      replace C0 := hide C0
      replace C1 := hide C1
      have KX := hide (fun (W' : World) (hb : Below W8.heap.size W8 W') => Has_in _ x2 o0 o1 W' ((unhide HO).below hb) hlx)
      have KZ := hide (fun (W' : World) (hb : Below W8.heap.size W8 W') => Has_in _ z0 o0 o1 W' ((unhide HV).below hb) hlz)
      rw [e5] at KX
      cases hv : hasV z0 (o0, o1)
      · rw [hv] at KX KZ
        simp only [Bool.false_or] at KX
        have hE := fun W => eqD o0 o1 k d1 W
        generalize decide ((o0, o1) = ((k : Int), d1)) = E at *
        clear e5 hv
        go_wp2_with fail
        refine wp_region_any (by kernel_rfl) ?_
        change wpAny _ _ _ _ _ _ _ (World.drew _)
        refine region_invG 125 (fun j => if j = 15 then 6 else 110 + j) ((0, (Value.slice a0 len0 cap0)) :: (1, (Value.agg #[Value.int IntKind.i64 (k : Int), Value.int IntKind.i64 d1])) :: (2, (Value.agg #[Value.int IntKind.i64 o0, Value.int IntKind.i64 o1])) :: (3, undef) :: (4, (Value.pointer (some { block := w.heap.size, off := 0 }))) :: (5, (Value.pointer (some { block := w.heap.size + 1, off := 0 }))) :: (7, (Value.int IntKind.i64 N)) :: (8, (Value.slice a2 x2.length c2)) :: (9, (Value.int IntKind.i64 0)) :: (10, (Value.slice a0 len0 cap0)) :: (11, (Value.int IntKind.i64 (len0 : Int))) :: (12, (Value.bool false)) :: (13, undef) :: (14, (Value.slice a0 len0 cap0)) :: (15, (Value.pointer (some { block := w.heap.size, off := 0 }))) :: (16, (Value.int IntKind.i64 (k : Int))) :: (17, (Value.int IntKind.i64 N)) :: (18, (Value.tuple #[Value.slice a2 x2.length c2, Value.int IntKind.i64 0])) :: (19, (Value.slice a0 len0 cap0)) :: (20, (Value.agg #[Value.int IntKind.i64 (k : Int), Value.int IntKind.i64 d1])) :: (21, (Value.tuple #[Value.slice a2 x2.length c2, Value.int IntKind.i64 0])) :: (22, (Value.slice a2 x2.length c2)) :: (23, (Value.int IntKind.i64 0)) :: (24, (Value.bool (decide ((k : Int) < 1) || decide (16 < (k : Int)) || decide (d1 < 1)))) :: (25, (Value.pointer (some { block := w.heap.size, off := 0 }))) :: (26, (Value.int IntKind.i64 (k : Int))) :: (27, (Value.bool (decide ((k : Int) < 1)))) :: (28, (Value.bool (decide ((k : Int) < 1)))) :: (29, (Value.pointer (some { block := w.heap.size, off := 0 }))) :: (30, (Value.int IntKind.i64 (k : Int))) :: (31, (Value.bool (decide (16 < (k : Int))))) :: (32, (Value.bool (decide ((k : Int) < 1) || decide (16 < (k : Int))))) :: (33, (Value.bool (decide ((k : Int) < 1) || decide (16 < (k : Int))))) :: (34, (Value.pointer (some { block := w.heap.size, off := 1 }))) :: (35, (Value.int IntKind.i64 d1)) :: (36, (Value.bool (decide (d1 < 1)))) :: (37, (Value.bool (decide ((k : Int) < 1) || decide (16 < (k : Int)) || decide (d1 < 1)))) :: (38, undef) :: (39, undef) :: (40, undef) :: (41, undef) :: (42, undef) :: (43, undef) :: (44, undef) :: (45, undef) :: (46, undef) :: (47, undef) :: (48, (Value.bool (decide (2147483647 < d1)))) :: (49, (Value.pointer (some { block := w.heap.size, off := 1 }))) :: (50, (Value.int IntKind.i64 d1)) :: (51, (Value.bool (decide (2147483647 < d1)))) :: (52, undef) :: (53, undef) :: (54, undef) :: (55, undef) :: (56, undef) :: (57, undef) :: (58, undef) :: (59, undef) :: (60, undef) :: (61, undef) :: (62, (Value.bool false)) :: (63, (Value.pointer (some { block := w.heap.size, off := 1 }))) :: (64, (Value.int IntKind.i64 d1)) :: (65, (Value.int IntKind.i64 N)) :: (66, (Value.int IntKind.i64 (N + 1))) :: (67, (Value.bool false)) :: (68, undef) :: (69, undef) :: (70, undef) :: (71, undef) :: (72, undef) :: (73, undef) :: (74, undef) :: (75, undef) :: (76, undef) :: (77, undef) :: (78, (Value.int IntKind.i64 0)) :: (79, (Value.bool false)) :: (80, (Value.bool false)) :: (81, (Value.slice a2 x2.length c2)) :: (82, (Value.int IntKind.i64 0)) :: (83, (Value.bool false)) :: (84, (Value.bool false)) :: (85, (Value.bool false)) :: (86, (Value.slice a0 len0 cap0)) :: (87, (Value.agg #[Value.int IntKind.i64 (k : Int), Value.int IntKind.i64 d1])) :: (88, (Value.bool false)) :: (89, (Value.bool false)) :: (90, (Value.bool false)) :: (91, (Value.slice a2 x2.length c2)) :: (92, (Value.agg #[Value.int IntKind.i64 (k : Int), Value.int IntKind.i64 d1])) :: (93, (Value.bool true)) :: (94, (Value.bool false)) :: (95, (Value.bool false)) :: (96, (Value.bool false)) :: (97, (Value.slice a2 x2.length c2)) :: (98, (Value.int IntKind.i64 (S + 1))) :: (99, (Value.slice a0 len0 cap0)) :: (100, (Value.int IntKind.i64 S)) :: (101, (Value.int IntKind.i64 (S + 1))) :: (102, (Value.bool false)) :: (103, (Value.bool false)) :: (104, (Value.bool false)) :: (105, (Value.slice a2 x2.length c2)) :: (106, (Value.slice a0 len0 cap0)) :: (107, (Value.bool true)) :: (108, (Value.bool false)) :: (109, (Value.bool false)) :: [])
          (fun W => Below W8.heap.size W8 W)
          (valsOf [isV (Value.slice a2 x2.length c2), isV (.agg #[.int .i64 o0, .int .i64 o1]), isV (.bool E), isV (Value.slice a0 len0 cap0), isV (.agg #[.int .i64 o0, .int .i64 o1]), isV (.bool false), isV (.bool false), isV (.agg #[.int .i64 o0, .int .i64 o1]), isV (.agg #[.int .i64 (k : Int), .int .i64 d1]), isV (.bool E), isV (.bool E), isV (.bool true), isV (.bool true), isV (.bool true), isV (.bool true), isV (.bool true)])
          (fun w w' => Below w.heap.size w w') ?fit (fun w1 w2 h hG => h.trans (hG.mono h.size)) (valsOf_stable ?stable) (fun p => match p with | (6, false) => true | (12, true) => true | _ => true) [(6, false), (12, true)] ?gs ?gv ?steps ?fin _ _ ?sz rfl ?base ?start
        case fit => kernel_rfl
        case sz => rfl
        case gs => kernel_rfl
        case gv => intro p hp w v hv; simp only [List.mem_cons, List.not_mem_nil, or_false] at hp; rcases hp with rfl | rfl <;> exact hv
        case base => intro p hp; repeat (first | (rcases List.mem_cons.1 hp with rfl | hp; · rfl) | cases hp)
        case stable => exact Stables.all (by repeat (first | exact .nil | refine .same ?_))
        case start => exact (Below.refl _ _).drew
        case steps =>
          refine .cons (fun ρ wz hρ hJ hb hd => by
            refine Eq.mpr (if_neg (by decide)) ?_
            have d0 : ρ (.tmp 8) = (Value.slice a2 x2.length c2) := hb (8, _) (List.mem_of_getElem? (i := 7) rfl)
            exact step_move (.tmp 8) rfl ⟨Below.refl _ _, d0⟩) ?_
          refine .cons (fun ρ wz hρ hJ hb hd => by
            refine Eq.mpr (if_neg (by decide)) ?_
            have d0 : ρ (.tmp 5) = (Value.pointer (some { block := w.heap.size + 1, off := 0 })) := hb (5, _) (List.mem_of_getElem? (i := 5) rfl)
            obtain ⟨x0, x1⟩ := unhide C1 wz hJ
            exact step_val (v := (.agg #[.int .i64 o0, .int .i64 o1])) (w' := wz) (by simp [go_sem, execOp, d0, x0, x1]) ⟨Below.refl _ _, rfl⟩) ?_
          refine .cons (fun ρ wz hρ hJ hb hd => by
            refine Eq.mpr (if_neg (by decide)) ?_
            have d0 : ρ (.tmp 110) = (Value.slice a2 x2.length c2) := hd 0 _ rfl rfl
            have d1 : ρ (.tmp 111) = (.agg #[.int .i64 o0, .int .i64 o1]) := hd 1 _ rfl rfl
            refine step_func 17 _ _ #[Value.slice a2 x2.length c2, .agg #[.int .i64 o0, .int .i64 o1]] hρ rfl (enters_of Try.func17 (by kernel_rfl) rfl) (by simp [d0, d1]) ?_
            refine (unhide KX wz hJ).mono ?_
            rintro r W' ⟨rfl, hb2⟩
            exact ⟨_, rfl, hb2, rfl⟩) ?_
          refine .cons (fun ρ wz hρ hJ hb hd => by
            refine Eq.mpr (if_neg (by decide)) ?_
            have d0 : ρ (.tmp 0) = (Value.slice a0 len0 cap0) := hb (0, _) (List.mem_of_getElem? (i := 0) rfl)
            exact step_move (.tmp 0) rfl ⟨Below.refl _ _, d0⟩) ?_
          refine .cons (fun ρ wz hρ hJ hb hd => by
            refine Eq.mpr (if_neg (by decide)) ?_
            have d0 : ρ (.tmp 5) = (Value.pointer (some { block := w.heap.size + 1, off := 0 })) := hb (5, _) (List.mem_of_getElem? (i := 5) rfl)
            obtain ⟨x0, x1⟩ := unhide C1 wz hJ
            exact step_val (v := (.agg #[.int .i64 o0, .int .i64 o1])) (w' := wz) (by simp [go_sem, execOp, d0, x0, x1]) ⟨Below.refl _ _, rfl⟩) ?_
          refine .cons (fun ρ wz hρ hJ hb hd => by
            refine Eq.mpr (if_neg (by decide)) ?_
            have d0 : ρ (.tmp 113) = (Value.slice a0 len0 cap0) := hd 0 _ rfl rfl
            have d1 : ρ (.tmp 114) = (.agg #[.int .i64 o0, .int .i64 o1]) := hd 1 _ rfl rfl
            refine step_func 17 _ _ #[Value.slice a0 len0 cap0, .agg #[.int .i64 o0, .int .i64 o1]] hρ rfl (enters_of Try.func17 (by kernel_rfl) rfl) (by simp [d0, d1]) ?_
            refine (unhide KZ wz hJ).mono ?_
            rintro r W' ⟨rfl, hb2⟩
            exact ⟨_, rfl, hb2, rfl⟩) ?_
          refine .cons (fun ρ wz hρ hJ hb hd => by
            refine Eq.mpr (if_neg (by decide)) ?_
            have d0 : ρ (.tmp 115) = (.bool false) := hd 0 _ rfl rfl
            exact step_move (.tmp 115) rfl ⟨Below.refl _ _, d0⟩) ?_
          refine .cons (fun ρ wz hρ hJ hb hd => by
            refine Eq.mpr (if_neg (by decide)) ?_
            have d0 : ρ (.tmp 5) = (Value.pointer (some { block := w.heap.size + 1, off := 0 })) := hb (5, _) (List.mem_of_getElem? (i := 5) rfl)
            obtain ⟨x0, x1⟩ := unhide C1 wz hJ
            exact step_val (v := (.agg #[.int .i64 o0, .int .i64 o1])) (w' := wz) (by simp [go_sem, execOp, d0, x0, x1]) ⟨Below.refl _ _, rfl⟩) ?_
          refine .cons (fun ρ wz hρ hJ hb hd => by
            refine Eq.mpr (if_neg (by decide)) ?_
            have d0 : ρ (.tmp 4) = (Value.pointer (some { block := w.heap.size, off := 0 })) := hb (4, _) (List.mem_of_getElem? (i := 4) rfl)
            obtain ⟨x0, x1⟩ := unhide C0 wz hJ
            exact step_val (v := (.agg #[.int .i64 (k : Int), .int .i64 d1])) (w' := wz) (by simp [go_sem, execOp, d0, x0, x1]) ⟨Below.refl _ _, rfl⟩) ?_
          refine .cons (fun ρ wz hρ hJ hb hd => by
            refine Eq.mpr (if_neg (by decide)) ?_
            have d0 : ρ (.tmp 117) = (.agg #[.int .i64 o0, .int .i64 o1]) := hd 0 _ rfl rfl
            have d1 : ρ (.tmp 118) = (.agg #[.int .i64 (k : Int), .int .i64 d1]) := hd 1 _ rfl rfl
            exact step_val (v := (.bool E)) (w' := wz) (by simp only [execOp, d0, d1, Sem.run_bind, Sem.run_pure, run_eqGuard_agg _ _ _ _ _ _ _ Try.eqGuardType25, hE, Result.andThen_ok]) ⟨Below.refl _ _, rfl⟩) ?_
          refine .cons (fun ρ wz hρ hJ hb hd => by
            refine Eq.mpr (if_neg (by decide)) ?_
            have d0 : ρ (.tmp 116) = (.bool false) := hd 0 _ rfl rfl
            have d1 : ρ (.tmp 119) = (.bool E) := hd 1 _ rfl rfl
            exact step_val (v := (.bool E)) (w' := wz) (by simp [go_sem, execOp, d0, d1, hρ.const]) ⟨Below.refl _ _, rfl⟩) ?_
          refine .cons (fun ρ wz hρ hJ hb hd => by
            refine Eq.mpr (if_neg (by decide)) ?_
            have d0 : ρ (.tmp 112) = (.bool E) := hd 0 _ rfl rfl
            have d1 : ρ (.tmp 120) = (.bool E) := hd 1 _ rfl rfl
            exact step_val (v := (.bool true)) (w' := wz) (by simp [go_sem, execOp, d0, d1, hρ.const]) ⟨Below.refl _ _, rfl⟩) ?_
          refine .cons (fun ρ wz hρ hJ hb hd => by
            refine Eq.mpr (if_neg (by decide)) ?_
            have d0 : ρ (.tmp 121) = (.bool true) := hd 0 _ rfl rfl
            exact step_move (.tmp 121) rfl ⟨Below.refl _ _, d0⟩) ?_
          refine .cons (fun ρ wz hρ hJ hb hd => by
            refine Eq.mpr (if_neg (by decide)) ?_
            refine step_func 9 _ _ #[] hρ rfl (enters_of Try.func9 (by kernel_rfl) rfl) (by simp) ?_
            refine (known_in wz).mono ?_
            rintro r W' ⟨rfl, hb2⟩
            exact ⟨_, rfl, hb2, rfl⟩) ?_
          refine .cons (fun ρ wz hρ hJ hb hd => by
            refine Eq.mpr (if_neg (by decide)) ?_
            have d0 : ρ (.tmp 122) = (.bool true) := hd 0 _ rfl rfl
            have d1 : ρ (.tmp 123) = (.bool true) := hd 1 _ rfl rfl
            exact step_val (v := (.bool true)) (w' := wz) (by simp [go_sem, execOp, d0, d1, hρ.const]) ⟨Below.refl _ _, rfl⟩) ?_
          refine .cons (fun ρ wz hρ hJ hb hd => by
            refine Eq.mpr (if_neg (by decide)) ?_
            have d0 : ρ (.tmp 124) = (.bool true) := hd 0 _ rfl rfl
            exact step_assign (.tmp 124) rfl ⟨Below.refl _ _, d0⟩) (.nil _)
        case fin =>
          intro a W5 hsz2 hds hb hJ hv
          obtain rfl := frame_of (((0, (Value.slice a0 len0 cap0)) :: (1, (Value.agg #[Value.int IntKind.i64 (k : Int), Value.int IntKind.i64 d1])) :: (2, (Value.agg #[Value.int IntKind.i64 o0, Value.int IntKind.i64 o1])) :: (3, undef) :: (4, (Value.pointer (some { block := w.heap.size, off := 0 }))) :: (5, (Value.pointer (some { block := w.heap.size + 1, off := 0 }))) :: (7, (Value.int IntKind.i64 N)) :: (8, (Value.slice a2 x2.length c2)) :: (9, (Value.int IntKind.i64 0)) :: (10, (Value.slice a0 len0 cap0)) :: (11, (Value.int IntKind.i64 (len0 : Int))) :: (12, (Value.bool false)) :: (13, undef) :: (14, (Value.slice a0 len0 cap0)) :: (15, (Value.pointer (some { block := w.heap.size, off := 0 }))) :: (16, (Value.int IntKind.i64 (k : Int))) :: (17, (Value.int IntKind.i64 N)) :: (18, (Value.tuple #[Value.slice a2 x2.length c2, Value.int IntKind.i64 0])) :: (19, (Value.slice a0 len0 cap0)) :: (20, (Value.agg #[Value.int IntKind.i64 (k : Int), Value.int IntKind.i64 d1])) :: (21, (Value.tuple #[Value.slice a2 x2.length c2, Value.int IntKind.i64 0])) :: (22, (Value.slice a2 x2.length c2)) :: (23, (Value.int IntKind.i64 0)) :: (24, (Value.bool (decide ((k : Int) < 1) || decide (16 < (k : Int)) || decide (d1 < 1)))) :: (25, (Value.pointer (some { block := w.heap.size, off := 0 }))) :: (26, (Value.int IntKind.i64 (k : Int))) :: (27, (Value.bool (decide ((k : Int) < 1)))) :: (28, (Value.bool (decide ((k : Int) < 1)))) :: (29, (Value.pointer (some { block := w.heap.size, off := 0 }))) :: (30, (Value.int IntKind.i64 (k : Int))) :: (31, (Value.bool (decide (16 < (k : Int))))) :: (32, (Value.bool (decide ((k : Int) < 1) || decide (16 < (k : Int))))) :: (33, (Value.bool (decide ((k : Int) < 1) || decide (16 < (k : Int))))) :: (34, (Value.pointer (some { block := w.heap.size, off := 1 }))) :: (35, (Value.int IntKind.i64 d1)) :: (36, (Value.bool (decide (d1 < 1)))) :: (37, (Value.bool (decide ((k : Int) < 1) || decide (16 < (k : Int)) || decide (d1 < 1)))) :: (38, undef) :: (39, undef) :: (40, undef) :: (41, undef) :: (42, undef) :: (43, undef) :: (44, undef) :: (45, undef) :: (46, undef) :: (47, undef) :: (48, (Value.bool (decide (2147483647 < d1)))) :: (49, (Value.pointer (some { block := w.heap.size, off := 1 }))) :: (50, (Value.int IntKind.i64 d1)) :: (51, (Value.bool (decide (2147483647 < d1)))) :: (52, undef) :: (53, undef) :: (54, undef) :: (55, undef) :: (56, undef) :: (57, undef) :: (58, undef) :: (59, undef) :: (60, undef) :: (61, undef) :: (62, (Value.bool false)) :: (63, (Value.pointer (some { block := w.heap.size, off := 1 }))) :: (64, (Value.int IntKind.i64 d1)) :: (65, (Value.int IntKind.i64 N)) :: (66, (Value.int IntKind.i64 (N + 1))) :: (67, (Value.bool false)) :: (68, undef) :: (69, undef) :: (70, undef) :: (71, undef) :: (72, undef) :: (73, undef) :: (74, undef) :: (75, undef) :: (76, undef) :: (77, undef) :: (78, (Value.int IntKind.i64 0)) :: (79, (Value.bool false)) :: (80, (Value.bool false)) :: (81, (Value.slice a2 x2.length c2)) :: (82, (Value.int IntKind.i64 0)) :: (83, (Value.bool false)) :: (84, (Value.bool false)) :: (85, (Value.bool false)) :: (86, (Value.slice a0 len0 cap0)) :: (87, (Value.agg #[Value.int IntKind.i64 (k : Int), Value.int IntKind.i64 d1])) :: (88, (Value.bool false)) :: (89, (Value.bool false)) :: (90, (Value.bool false)) :: (91, (Value.slice a2 x2.length c2)) :: (92, (Value.agg #[Value.int IntKind.i64 (k : Int), Value.int IntKind.i64 d1])) :: (93, (Value.bool true)) :: (94, (Value.bool false)) :: (95, (Value.bool false)) :: (96, (Value.bool false)) :: (97, (Value.slice a2 x2.length c2)) :: (98, (Value.int IntKind.i64 (S + 1))) :: (99, (Value.slice a0 len0 cap0)) :: (100, (Value.int IntKind.i64 S)) :: (101, (Value.int IntKind.i64 (S + 1))) :: (102, (Value.bool false)) :: (103, (Value.bool false)) :: (104, (Value.bool false)) :: (105, (Value.slice a2 x2.length c2)) :: (106, (Value.slice a0 len0 cap0)) :: (107, (Value.bool true)) :: (108, (Value.bool false)) :: (109, (Value.bool false)) :: []) ++ ((110, (Value.slice a2 x2.length c2)) :: (111, (.agg #[.int .i64 o0, .int .i64 o1])) :: (112, (.bool E)) :: (113, (Value.slice a0 len0 cap0)) :: (114, (.agg #[.int .i64 o0, .int .i64 o1])) :: (115, (.bool false)) :: (116, (.bool false)) :: (117, (.agg #[.int .i64 o0, .int .i64 o1])) :: (118, (.agg #[.int .i64 (k : Int), .int .i64 d1])) :: (119, (.bool E)) :: (120, (.bool E)) :: (121, (.bool true)) :: (122, (.bool true)) :: (123, (.bool true)) :: (124, (.bool true)) :: (6, (.bool true)) :: [])) ((Value.slice a0 len0 cap0) :: (Value.agg #[Value.int IntKind.i64 (k : Int), Value.int IntKind.i64 d1]) :: (Value.agg #[Value.int IntKind.i64 o0, Value.int IntKind.i64 o1]) :: undef :: (Value.pointer (some { block := w.heap.size, off := 0 })) :: (Value.pointer (some { block := w.heap.size + 1, off := 0 })) :: (.bool true) :: (Value.int IntKind.i64 N) :: (Value.slice a2 x2.length c2) :: (Value.int IntKind.i64 0) :: (Value.slice a0 len0 cap0) :: (Value.int IntKind.i64 (len0 : Int)) :: (Value.bool false) :: undef :: (Value.slice a0 len0 cap0) :: (Value.pointer (some { block := w.heap.size, off := 0 })) :: (Value.int IntKind.i64 (k : Int)) :: (Value.int IntKind.i64 N) :: (Value.tuple #[Value.slice a2 x2.length c2, Value.int IntKind.i64 0]) :: (Value.slice a0 len0 cap0) :: (Value.agg #[Value.int IntKind.i64 (k : Int), Value.int IntKind.i64 d1]) :: (Value.tuple #[Value.slice a2 x2.length c2, Value.int IntKind.i64 0]) :: (Value.slice a2 x2.length c2) :: (Value.int IntKind.i64 0) :: (Value.bool (decide ((k : Int) < 1) || decide (16 < (k : Int)) || decide (d1 < 1))) :: (Value.pointer (some { block := w.heap.size, off := 0 })) :: (Value.int IntKind.i64 (k : Int)) :: (Value.bool (decide ((k : Int) < 1))) :: (Value.bool (decide ((k : Int) < 1))) :: (Value.pointer (some { block := w.heap.size, off := 0 })) :: (Value.int IntKind.i64 (k : Int)) :: (Value.bool (decide (16 < (k : Int)))) :: (Value.bool (decide ((k : Int) < 1) || decide (16 < (k : Int)))) :: (Value.bool (decide ((k : Int) < 1) || decide (16 < (k : Int)))) :: (Value.pointer (some { block := w.heap.size, off := 1 })) :: (Value.int IntKind.i64 d1) :: (Value.bool (decide (d1 < 1))) :: (Value.bool (decide ((k : Int) < 1) || decide (16 < (k : Int)) || decide (d1 < 1))) :: undef :: undef :: undef :: undef :: undef :: undef :: undef :: undef :: undef :: undef :: (Value.bool (decide (2147483647 < d1))) :: (Value.pointer (some { block := w.heap.size, off := 1 })) :: (Value.int IntKind.i64 d1) :: (Value.bool (decide (2147483647 < d1))) :: undef :: undef :: undef :: undef :: undef :: undef :: undef :: undef :: undef :: undef :: (Value.bool false) :: (Value.pointer (some { block := w.heap.size, off := 1 })) :: (Value.int IntKind.i64 d1) :: (Value.int IntKind.i64 N) :: (Value.int IntKind.i64 (N + 1)) :: (Value.bool false) :: undef :: undef :: undef :: undef :: undef :: undef :: undef :: undef :: undef :: undef :: (Value.int IntKind.i64 0) :: (Value.bool false) :: (Value.bool false) :: (Value.slice a2 x2.length c2) :: (Value.int IntKind.i64 0) :: (Value.bool false) :: (Value.bool false) :: (Value.bool false) :: (Value.slice a0 len0 cap0) :: (Value.agg #[Value.int IntKind.i64 (k : Int), Value.int IntKind.i64 d1]) :: (Value.bool false) :: (Value.bool false) :: (Value.bool false) :: (Value.slice a2 x2.length c2) :: (Value.agg #[Value.int IntKind.i64 (k : Int), Value.int IntKind.i64 d1]) :: (Value.bool true) :: (Value.bool false) :: (Value.bool false) :: (Value.bool false) :: (Value.slice a2 x2.length c2) :: (Value.int IntKind.i64 (S + 1)) :: (Value.slice a0 len0 cap0) :: (Value.int IntKind.i64 S) :: (Value.int IntKind.i64 (S + 1)) :: (Value.bool false) :: (Value.bool false) :: (Value.bool false) :: (Value.slice a2 x2.length c2) :: (Value.slice a0 len0 cap0) :: (Value.bool true) :: (Value.bool false) :: (Value.bool false) :: (Value.slice a2 x2.length c2) :: (.agg #[.int .i64 o0, .int .i64 o1]) :: (.bool E) :: (Value.slice a0 len0 cap0) :: (.agg #[.int .i64 o0, .int .i64 o1]) :: (.bool false) :: (.bool false) :: (.agg #[.int .i64 o0, .int .i64 o1]) :: (.agg #[.int .i64 (k : Int), .int .i64 d1]) :: (.bool E) :: (.bool E) :: (.bool true) :: (.bool true) :: (.bool true) :: (.bool true) :: []) hsz2 hds (fun p hp => by
            rcases List.mem_append.1 hp with h | h
            · exact hb p h
            · simp only [List.mem_cons, List.not_mem_nil, or_false] at h
              rcases h with rfl | rfl | rfl | rfl | rfl | rfl | rfl | rfl | rfl | rfl | rfl | rfl | rfl | rfl | rfl | rfl
              · exact hv 0 (by decide)
              · exact hv 1 (by decide)
              · exact hv 2 (by decide)
              · exact hv 3 (by decide)
              · exact hv 4 (by decide)
              · exact hv 5 (by decide)
              · exact hv 6 (by decide)
              · exact hv 7 (by decide)
              · exact hv 8 (by decide)
              · exact hv 9 (by decide)
              · exact hv 10 (by decide)
              · exact hv 11 (by decide)
              · exact hv 12 (by decide)
              · exact hv 13 (by decide)
              · exact hv 14 (by decide)
              · exact hv 15 (by decide)) rfl
          clear hb hds hsz2 hv
          go_wp2
          go_ret
          exact ⟨rfl, bnext (unhide BX) hJ⟩
      · rw [hv] at KX KZ
        simp only [Bool.true_or] at KX
        clear e5 hv
        go_wp2_with fail
        refine wp_region_any (by kernel_rfl) ?_
        change wpAny _ _ _ _ _ _ _ (World.drew _)
        refine region_invG 125 (fun j => if j = 15 then 6 else 110 + j) ((0, (Value.slice a0 len0 cap0)) :: (1, (Value.agg #[Value.int IntKind.i64 (k : Int), Value.int IntKind.i64 d1])) :: (2, (Value.agg #[Value.int IntKind.i64 o0, Value.int IntKind.i64 o1])) :: (3, undef) :: (4, (Value.pointer (some { block := w.heap.size, off := 0 }))) :: (5, (Value.pointer (some { block := w.heap.size + 1, off := 0 }))) :: (7, (Value.int IntKind.i64 N)) :: (8, (Value.slice a2 x2.length c2)) :: (9, (Value.int IntKind.i64 0)) :: (10, (Value.slice a0 len0 cap0)) :: (11, (Value.int IntKind.i64 (len0 : Int))) :: (12, (Value.bool false)) :: (13, undef) :: (14, (Value.slice a0 len0 cap0)) :: (15, (Value.pointer (some { block := w.heap.size, off := 0 }))) :: (16, (Value.int IntKind.i64 (k : Int))) :: (17, (Value.int IntKind.i64 N)) :: (18, (Value.tuple #[Value.slice a2 x2.length c2, Value.int IntKind.i64 0])) :: (19, (Value.slice a0 len0 cap0)) :: (20, (Value.agg #[Value.int IntKind.i64 (k : Int), Value.int IntKind.i64 d1])) :: (21, (Value.tuple #[Value.slice a2 x2.length c2, Value.int IntKind.i64 0])) :: (22, (Value.slice a2 x2.length c2)) :: (23, (Value.int IntKind.i64 0)) :: (24, (Value.bool (decide ((k : Int) < 1) || decide (16 < (k : Int)) || decide (d1 < 1)))) :: (25, (Value.pointer (some { block := w.heap.size, off := 0 }))) :: (26, (Value.int IntKind.i64 (k : Int))) :: (27, (Value.bool (decide ((k : Int) < 1)))) :: (28, (Value.bool (decide ((k : Int) < 1)))) :: (29, (Value.pointer (some { block := w.heap.size, off := 0 }))) :: (30, (Value.int IntKind.i64 (k : Int))) :: (31, (Value.bool (decide (16 < (k : Int))))) :: (32, (Value.bool (decide ((k : Int) < 1) || decide (16 < (k : Int))))) :: (33, (Value.bool (decide ((k : Int) < 1) || decide (16 < (k : Int))))) :: (34, (Value.pointer (some { block := w.heap.size, off := 1 }))) :: (35, (Value.int IntKind.i64 d1)) :: (36, (Value.bool (decide (d1 < 1)))) :: (37, (Value.bool (decide ((k : Int) < 1) || decide (16 < (k : Int)) || decide (d1 < 1)))) :: (38, undef) :: (39, undef) :: (40, undef) :: (41, undef) :: (42, undef) :: (43, undef) :: (44, undef) :: (45, undef) :: (46, undef) :: (47, undef) :: (48, (Value.bool (decide (2147483647 < d1)))) :: (49, (Value.pointer (some { block := w.heap.size, off := 1 }))) :: (50, (Value.int IntKind.i64 d1)) :: (51, (Value.bool (decide (2147483647 < d1)))) :: (52, undef) :: (53, undef) :: (54, undef) :: (55, undef) :: (56, undef) :: (57, undef) :: (58, undef) :: (59, undef) :: (60, undef) :: (61, undef) :: (62, (Value.bool false)) :: (63, (Value.pointer (some { block := w.heap.size, off := 1 }))) :: (64, (Value.int IntKind.i64 d1)) :: (65, (Value.int IntKind.i64 N)) :: (66, (Value.int IntKind.i64 (N + 1))) :: (67, (Value.bool false)) :: (68, undef) :: (69, undef) :: (70, undef) :: (71, undef) :: (72, undef) :: (73, undef) :: (74, undef) :: (75, undef) :: (76, undef) :: (77, undef) :: (78, (Value.int IntKind.i64 0)) :: (79, (Value.bool false)) :: (80, (Value.bool false)) :: (81, (Value.slice a2 x2.length c2)) :: (82, (Value.int IntKind.i64 0)) :: (83, (Value.bool false)) :: (84, (Value.bool false)) :: (85, (Value.bool false)) :: (86, (Value.slice a0 len0 cap0)) :: (87, (Value.agg #[Value.int IntKind.i64 (k : Int), Value.int IntKind.i64 d1])) :: (88, (Value.bool false)) :: (89, (Value.bool false)) :: (90, (Value.bool false)) :: (91, (Value.slice a2 x2.length c2)) :: (92, (Value.agg #[Value.int IntKind.i64 (k : Int), Value.int IntKind.i64 d1])) :: (93, (Value.bool true)) :: (94, (Value.bool false)) :: (95, (Value.bool false)) :: (96, (Value.bool false)) :: (97, (Value.slice a2 x2.length c2)) :: (98, (Value.int IntKind.i64 (S + 1))) :: (99, (Value.slice a0 len0 cap0)) :: (100, (Value.int IntKind.i64 S)) :: (101, (Value.int IntKind.i64 (S + 1))) :: (102, (Value.bool false)) :: (103, (Value.bool false)) :: (104, (Value.bool false)) :: (105, (Value.slice a2 x2.length c2)) :: (106, (Value.slice a0 len0 cap0)) :: (107, (Value.bool true)) :: (108, (Value.bool false)) :: (109, (Value.bool false)) :: [])
          (fun W => Below W8.heap.size W8 W)
          (valsOf [isV (Value.slice a2 x2.length c2), isV (.agg #[.int .i64 o0, .int .i64 o1]), isV (.bool true), isV (Value.slice a0 len0 cap0), isV (.agg #[.int .i64 o0, .int .i64 o1]), isV (.bool true), isV (.bool true), isV undef, isV undef, isV undef, isV (.bool true), isV (.bool true), isV (.bool true), isV (.bool true), isV (.bool true), isV (.bool true)])
          (fun w w' => Below w.heap.size w w') ?fit (fun w1 w2 h hG => h.trans (hG.mono h.size)) (valsOf_stable ?stable) (fun p => match p with | (6, false) => false | (12, true) => true | _ => true) [(6, false), (12, true)] ?gs ?gv ?steps ?fin _ _ ?sz rfl ?base ?start
        case fit => kernel_rfl
        case sz => rfl
        case gs => kernel_rfl
        case gv => intro p hp w v hv; simp only [List.mem_cons, List.not_mem_nil, or_false] at hp; rcases hp with rfl | rfl <;> exact hv
        case base => intro p hp; repeat (first | (rcases List.mem_cons.1 hp with rfl | hp; · rfl) | cases hp)
        case stable => exact Stables.all (by repeat (first | exact .nil | refine .same ?_))
        case start => exact (Below.refl _ _).drew
        case steps =>
          refine .cons (fun ρ wz hρ hJ hb hd => by
            refine Eq.mpr (if_neg (by decide)) ?_
            have d0 : ρ (.tmp 8) = (Value.slice a2 x2.length c2) := hb (8, _) (List.mem_of_getElem? (i := 7) rfl)
            exact step_move (.tmp 8) rfl ⟨Below.refl _ _, d0⟩) ?_
          refine .cons (fun ρ wz hρ hJ hb hd => by
            refine Eq.mpr (if_neg (by decide)) ?_
            have d0 : ρ (.tmp 5) = (Value.pointer (some { block := w.heap.size + 1, off := 0 })) := hb (5, _) (List.mem_of_getElem? (i := 5) rfl)
            obtain ⟨x0, x1⟩ := unhide C1 wz hJ
            exact step_val (v := (.agg #[.int .i64 o0, .int .i64 o1])) (w' := wz) (by simp [go_sem, execOp, d0, x0, x1]) ⟨Below.refl _ _, rfl⟩) ?_
          refine .cons (fun ρ wz hρ hJ hb hd => by
            refine Eq.mpr (if_neg (by decide)) ?_
            have d0 : ρ (.tmp 110) = (Value.slice a2 x2.length c2) := hd 0 _ rfl rfl
            have d1 : ρ (.tmp 111) = (.agg #[.int .i64 o0, .int .i64 o1]) := hd 1 _ rfl rfl
            refine step_func 17 _ _ #[Value.slice a2 x2.length c2, .agg #[.int .i64 o0, .int .i64 o1]] hρ rfl (enters_of Try.func17 (by kernel_rfl) rfl) (by simp [d0, d1]) ?_
            refine (unhide KX wz hJ).mono ?_
            rintro r W' ⟨rfl, hb2⟩
            exact ⟨_, rfl, hb2, rfl⟩) ?_
          refine .cons (fun ρ wz hρ hJ hb hd => by
            refine Eq.mpr (if_neg (by decide)) ?_
            have d0 : ρ (.tmp 0) = (Value.slice a0 len0 cap0) := hb (0, _) (List.mem_of_getElem? (i := 0) rfl)
            exact step_move (.tmp 0) rfl ⟨Below.refl _ _, d0⟩) ?_
          refine .cons (fun ρ wz hρ hJ hb hd => by
            refine Eq.mpr (if_neg (by decide)) ?_
            have d0 : ρ (.tmp 5) = (Value.pointer (some { block := w.heap.size + 1, off := 0 })) := hb (5, _) (List.mem_of_getElem? (i := 5) rfl)
            obtain ⟨x0, x1⟩ := unhide C1 wz hJ
            exact step_val (v := (.agg #[.int .i64 o0, .int .i64 o1])) (w' := wz) (by simp [go_sem, execOp, d0, x0, x1]) ⟨Below.refl _ _, rfl⟩) ?_
          refine .cons (fun ρ wz hρ hJ hb hd => by
            refine Eq.mpr (if_neg (by decide)) ?_
            have d0 : ρ (.tmp 113) = (Value.slice a0 len0 cap0) := hd 0 _ rfl rfl
            have d1 : ρ (.tmp 114) = (.agg #[.int .i64 o0, .int .i64 o1]) := hd 1 _ rfl rfl
            refine step_func 17 _ _ #[Value.slice a0 len0 cap0, .agg #[.int .i64 o0, .int .i64 o1]] hρ rfl (enters_of Try.func17 (by kernel_rfl) rfl) (by simp [d0, d1]) ?_
            refine (unhide KZ wz hJ).mono ?_
            rintro r W' ⟨rfl, hb2⟩
            exact ⟨_, rfl, hb2, rfl⟩) ?_
          refine .cons (fun ρ wz hρ hJ hb hd => by
            refine Eq.mpr (if_neg (by decide)) ?_
            have d0 : ρ (.tmp 115) = (.bool true) := hd 0 _ rfl rfl
            exact step_move (.tmp 115) rfl ⟨Below.refl _ _, d0⟩) ?_
          refine .cons (fun ρ wz hρ hJ hb hd => Eq.mpr (if_pos (by decide)) rfl) ?_
          refine .cons (fun ρ wz hρ hJ hb hd => Eq.mpr (if_pos (by decide)) rfl) ?_
          refine .cons (fun ρ wz hρ hJ hb hd => Eq.mpr (if_pos (by decide)) rfl) ?_
          refine .cons (fun ρ wz hρ hJ hb hd => by
            refine Eq.mpr (if_neg (by decide)) ?_
            have d0 : ρ (.tmp 116) = (.bool true) := hd 0 _ rfl rfl
            have d1 : ρ (.tmp 119) = undef := hd 1 _ rfl rfl
            exact step_val (v := (.bool true)) (w' := wz) (by simp [go_sem, execOp, d0, d1, hρ.const]) ⟨Below.refl _ _, rfl⟩) ?_
          refine .cons (fun ρ wz hρ hJ hb hd => by
            refine Eq.mpr (if_neg (by decide)) ?_
            have d0 : ρ (.tmp 112) = (.bool true) := hd 0 _ rfl rfl
            have d1 : ρ (.tmp 120) = (.bool true) := hd 1 _ rfl rfl
            exact step_val (v := (.bool true)) (w' := wz) (by simp [go_sem, execOp, d0, d1, hρ.const]) ⟨Below.refl _ _, rfl⟩) ?_
          refine .cons (fun ρ wz hρ hJ hb hd => by
            refine Eq.mpr (if_neg (by decide)) ?_
            have d0 : ρ (.tmp 121) = (.bool true) := hd 0 _ rfl rfl
            exact step_move (.tmp 121) rfl ⟨Below.refl _ _, d0⟩) ?_
          refine .cons (fun ρ wz hρ hJ hb hd => by
            refine Eq.mpr (if_neg (by decide)) ?_
            refine step_func 9 _ _ #[] hρ rfl (enters_of Try.func9 (by kernel_rfl) rfl) (by simp) ?_
            refine (known_in wz).mono ?_
            rintro r W' ⟨rfl, hb2⟩
            exact ⟨_, rfl, hb2, rfl⟩) ?_
          refine .cons (fun ρ wz hρ hJ hb hd => by
            refine Eq.mpr (if_neg (by decide)) ?_
            have d0 : ρ (.tmp 122) = (.bool true) := hd 0 _ rfl rfl
            have d1 : ρ (.tmp 123) = (.bool true) := hd 1 _ rfl rfl
            exact step_val (v := (.bool true)) (w' := wz) (by simp [go_sem, execOp, d0, d1, hρ.const]) ⟨Below.refl _ _, rfl⟩) ?_
          refine .cons (fun ρ wz hρ hJ hb hd => by
            refine Eq.mpr (if_neg (by decide)) ?_
            have d0 : ρ (.tmp 124) = (.bool true) := hd 0 _ rfl rfl
            exact step_assign (.tmp 124) rfl ⟨Below.refl _ _, d0⟩) (.nil _)
        case fin =>
          intro a W5 hsz2 hds hb hJ hv
          obtain rfl := frame_of (((0, (Value.slice a0 len0 cap0)) :: (1, (Value.agg #[Value.int IntKind.i64 (k : Int), Value.int IntKind.i64 d1])) :: (2, (Value.agg #[Value.int IntKind.i64 o0, Value.int IntKind.i64 o1])) :: (3, undef) :: (4, (Value.pointer (some { block := w.heap.size, off := 0 }))) :: (5, (Value.pointer (some { block := w.heap.size + 1, off := 0 }))) :: (7, (Value.int IntKind.i64 N)) :: (8, (Value.slice a2 x2.length c2)) :: (9, (Value.int IntKind.i64 0)) :: (10, (Value.slice a0 len0 cap0)) :: (11, (Value.int IntKind.i64 (len0 : Int))) :: (12, (Value.bool false)) :: (13, undef) :: (14, (Value.slice a0 len0 cap0)) :: (15, (Value.pointer (some { block := w.heap.size, off := 0 }))) :: (16, (Value.int IntKind.i64 (k : Int))) :: (17, (Value.int IntKind.i64 N)) :: (18, (Value.tuple #[Value.slice a2 x2.length c2, Value.int IntKind.i64 0])) :: (19, (Value.slice a0 len0 cap0)) :: (20, (Value.agg #[Value.int IntKind.i64 (k : Int), Value.int IntKind.i64 d1])) :: (21, (Value.tuple #[Value.slice a2 x2.length c2, Value.int IntKind.i64 0])) :: (22, (Value.slice a2 x2.length c2)) :: (23, (Value.int IntKind.i64 0)) :: (24, (Value.bool (decide ((k : Int) < 1) || decide (16 < (k : Int)) || decide (d1 < 1)))) :: (25, (Value.pointer (some { block := w.heap.size, off := 0 }))) :: (26, (Value.int IntKind.i64 (k : Int))) :: (27, (Value.bool (decide ((k : Int) < 1)))) :: (28, (Value.bool (decide ((k : Int) < 1)))) :: (29, (Value.pointer (some { block := w.heap.size, off := 0 }))) :: (30, (Value.int IntKind.i64 (k : Int))) :: (31, (Value.bool (decide (16 < (k : Int))))) :: (32, (Value.bool (decide ((k : Int) < 1) || decide (16 < (k : Int))))) :: (33, (Value.bool (decide ((k : Int) < 1) || decide (16 < (k : Int))))) :: (34, (Value.pointer (some { block := w.heap.size, off := 1 }))) :: (35, (Value.int IntKind.i64 d1)) :: (36, (Value.bool (decide (d1 < 1)))) :: (37, (Value.bool (decide ((k : Int) < 1) || decide (16 < (k : Int)) || decide (d1 < 1)))) :: (38, undef) :: (39, undef) :: (40, undef) :: (41, undef) :: (42, undef) :: (43, undef) :: (44, undef) :: (45, undef) :: (46, undef) :: (47, undef) :: (48, (Value.bool (decide (2147483647 < d1)))) :: (49, (Value.pointer (some { block := w.heap.size, off := 1 }))) :: (50, (Value.int IntKind.i64 d1)) :: (51, (Value.bool (decide (2147483647 < d1)))) :: (52, undef) :: (53, undef) :: (54, undef) :: (55, undef) :: (56, undef) :: (57, undef) :: (58, undef) :: (59, undef) :: (60, undef) :: (61, undef) :: (62, (Value.bool false)) :: (63, (Value.pointer (some { block := w.heap.size, off := 1 }))) :: (64, (Value.int IntKind.i64 d1)) :: (65, (Value.int IntKind.i64 N)) :: (66, (Value.int IntKind.i64 (N + 1))) :: (67, (Value.bool false)) :: (68, undef) :: (69, undef) :: (70, undef) :: (71, undef) :: (72, undef) :: (73, undef) :: (74, undef) :: (75, undef) :: (76, undef) :: (77, undef) :: (78, (Value.int IntKind.i64 0)) :: (79, (Value.bool false)) :: (80, (Value.bool false)) :: (81, (Value.slice a2 x2.length c2)) :: (82, (Value.int IntKind.i64 0)) :: (83, (Value.bool false)) :: (84, (Value.bool false)) :: (85, (Value.bool false)) :: (86, (Value.slice a0 len0 cap0)) :: (87, (Value.agg #[Value.int IntKind.i64 (k : Int), Value.int IntKind.i64 d1])) :: (88, (Value.bool false)) :: (89, (Value.bool false)) :: (90, (Value.bool false)) :: (91, (Value.slice a2 x2.length c2)) :: (92, (Value.agg #[Value.int IntKind.i64 (k : Int), Value.int IntKind.i64 d1])) :: (93, (Value.bool true)) :: (94, (Value.bool false)) :: (95, (Value.bool false)) :: (96, (Value.bool false)) :: (97, (Value.slice a2 x2.length c2)) :: (98, (Value.int IntKind.i64 (S + 1))) :: (99, (Value.slice a0 len0 cap0)) :: (100, (Value.int IntKind.i64 S)) :: (101, (Value.int IntKind.i64 (S + 1))) :: (102, (Value.bool false)) :: (103, (Value.bool false)) :: (104, (Value.bool false)) :: (105, (Value.slice a2 x2.length c2)) :: (106, (Value.slice a0 len0 cap0)) :: (107, (Value.bool true)) :: (108, (Value.bool false)) :: (109, (Value.bool false)) :: []) ++ ((110, (Value.slice a2 x2.length c2)) :: (111, (.agg #[.int .i64 o0, .int .i64 o1])) :: (112, (.bool true)) :: (113, (Value.slice a0 len0 cap0)) :: (114, (.agg #[.int .i64 o0, .int .i64 o1])) :: (115, (.bool true)) :: (116, (.bool true)) :: (117, undef) :: (118, undef) :: (119, undef) :: (120, (.bool true)) :: (121, (.bool true)) :: (122, (.bool true)) :: (123, (.bool true)) :: (124, (.bool true)) :: (6, (.bool true)) :: [])) ((Value.slice a0 len0 cap0) :: (Value.agg #[Value.int IntKind.i64 (k : Int), Value.int IntKind.i64 d1]) :: (Value.agg #[Value.int IntKind.i64 o0, Value.int IntKind.i64 o1]) :: undef :: (Value.pointer (some { block := w.heap.size, off := 0 })) :: (Value.pointer (some { block := w.heap.size + 1, off := 0 })) :: (.bool true) :: (Value.int IntKind.i64 N) :: (Value.slice a2 x2.length c2) :: (Value.int IntKind.i64 0) :: (Value.slice a0 len0 cap0) :: (Value.int IntKind.i64 (len0 : Int)) :: (Value.bool false) :: undef :: (Value.slice a0 len0 cap0) :: (Value.pointer (some { block := w.heap.size, off := 0 })) :: (Value.int IntKind.i64 (k : Int)) :: (Value.int IntKind.i64 N) :: (Value.tuple #[Value.slice a2 x2.length c2, Value.int IntKind.i64 0]) :: (Value.slice a0 len0 cap0) :: (Value.agg #[Value.int IntKind.i64 (k : Int), Value.int IntKind.i64 d1]) :: (Value.tuple #[Value.slice a2 x2.length c2, Value.int IntKind.i64 0]) :: (Value.slice a2 x2.length c2) :: (Value.int IntKind.i64 0) :: (Value.bool (decide ((k : Int) < 1) || decide (16 < (k : Int)) || decide (d1 < 1))) :: (Value.pointer (some { block := w.heap.size, off := 0 })) :: (Value.int IntKind.i64 (k : Int)) :: (Value.bool (decide ((k : Int) < 1))) :: (Value.bool (decide ((k : Int) < 1))) :: (Value.pointer (some { block := w.heap.size, off := 0 })) :: (Value.int IntKind.i64 (k : Int)) :: (Value.bool (decide (16 < (k : Int)))) :: (Value.bool (decide ((k : Int) < 1) || decide (16 < (k : Int)))) :: (Value.bool (decide ((k : Int) < 1) || decide (16 < (k : Int)))) :: (Value.pointer (some { block := w.heap.size, off := 1 })) :: (Value.int IntKind.i64 d1) :: (Value.bool (decide (d1 < 1))) :: (Value.bool (decide ((k : Int) < 1) || decide (16 < (k : Int)) || decide (d1 < 1))) :: undef :: undef :: undef :: undef :: undef :: undef :: undef :: undef :: undef :: undef :: (Value.bool (decide (2147483647 < d1))) :: (Value.pointer (some { block := w.heap.size, off := 1 })) :: (Value.int IntKind.i64 d1) :: (Value.bool (decide (2147483647 < d1))) :: undef :: undef :: undef :: undef :: undef :: undef :: undef :: undef :: undef :: undef :: (Value.bool false) :: (Value.pointer (some { block := w.heap.size, off := 1 })) :: (Value.int IntKind.i64 d1) :: (Value.int IntKind.i64 N) :: (Value.int IntKind.i64 (N + 1)) :: (Value.bool false) :: undef :: undef :: undef :: undef :: undef :: undef :: undef :: undef :: undef :: undef :: (Value.int IntKind.i64 0) :: (Value.bool false) :: (Value.bool false) :: (Value.slice a2 x2.length c2) :: (Value.int IntKind.i64 0) :: (Value.bool false) :: (Value.bool false) :: (Value.bool false) :: (Value.slice a0 len0 cap0) :: (Value.agg #[Value.int IntKind.i64 (k : Int), Value.int IntKind.i64 d1]) :: (Value.bool false) :: (Value.bool false) :: (Value.bool false) :: (Value.slice a2 x2.length c2) :: (Value.agg #[Value.int IntKind.i64 (k : Int), Value.int IntKind.i64 d1]) :: (Value.bool true) :: (Value.bool false) :: (Value.bool false) :: (Value.bool false) :: (Value.slice a2 x2.length c2) :: (Value.int IntKind.i64 (S + 1)) :: (Value.slice a0 len0 cap0) :: (Value.int IntKind.i64 S) :: (Value.int IntKind.i64 (S + 1)) :: (Value.bool false) :: (Value.bool false) :: (Value.bool false) :: (Value.slice a2 x2.length c2) :: (Value.slice a0 len0 cap0) :: (Value.bool true) :: (Value.bool false) :: (Value.bool false) :: (Value.slice a2 x2.length c2) :: (.agg #[.int .i64 o0, .int .i64 o1]) :: (.bool true) :: (Value.slice a0 len0 cap0) :: (.agg #[.int .i64 o0, .int .i64 o1]) :: (.bool true) :: (.bool true) :: undef :: undef :: undef :: (.bool true) :: (.bool true) :: (.bool true) :: (.bool true) :: (.bool true) :: []) hsz2 hds (fun p hp => by
            rcases List.mem_append.1 hp with h | h
            · exact hb p h
            · simp only [List.mem_cons, List.not_mem_nil, or_false] at h
              rcases h with rfl | rfl | rfl | rfl | rfl | rfl | rfl | rfl | rfl | rfl | rfl | rfl | rfl | rfl | rfl | rfl
              · exact hv 0 (by decide)
              · exact hv 1 (by decide)
              · exact hv 2 (by decide)
              · exact hv 3 (by decide)
              · exact hv 4 (by decide)
              · exact hv 5 (by decide)
              · exact hv 6 (by decide)
              · exact hv 7 (by decide)
              · exact hv 8 (by decide)
              · exact hv 9 (by decide)
              · exact hv 10 (by decide)
              · exact hv 11 (by decide)
              · exact hv 12 (by decide)
              · exact hv 13 (by decide)
              · exact hv 14 (by decide)
              · exact hv 15 (by decide)) rfl
          clear hb hds hsz2 hv
          go_wp2
          go_ret
          exact ⟨rfl, bnext (unhide BX) hJ⟩

theorem own : ownKnob Try.prog.godebug = none := by kernel_rfl
theorem laidOut2 : laidOutB Try.prog = true := by kernel_rfl

set_option maxRecDepth 100000 in
theorem lifted (os : Os) (started : os.Started) (H : Type) (enc : TypeId × Value → H) :
    ReturnsInHanded {} Try.checked os 7 .any (Rows.vectorAddsSpec.pre6 enc Try.prog Try.f7 Rows.vectorAddsRow.domain false) (Rows.vectorAddsSpec.post enc Try.prog Try.f7 false true false false) := by
  refine returnsInHanded_of_change (C := Try.checked) own started (by kernel_rfl) Try.func7
    (ChangeSpec.witness6 (enc := enc) (C := Try.checked) false ⟨#[], #[.slice none 0 0, .agg #[.int .i64 0, .int .i64 0], .agg #[.int .i64 0, .int .i64 0]], []⟩ 8 (by kernel_rfl) (by kernel_rfl) (by kernel_rfl) (by kernel_rfl)) ?_
  intro W base args ds gs before hval0 hW hcnd _
  have hval : ∀ (j : Nat) t v, Try.f7.params[j]? = some t → args[j]? = some v → Value.okWide Try.prog W .any base t v := hval0
  have hW' := hW
  obtain ⟨p, q, hA0, hV, rfl, hfz, hnd⟩ := hW
  have hA : DataW.TrodAll enc Try.prog W 0 (fun _ => true) true Try.f7.params.toList args.toList ds p := hA0
  rw [Try.params7] at hA hval
  obtain ⟨v0, vs0, d0, ds0, p0, q0, hargs, rfl, rfl, h0, r0⟩ := trodAll_cons hA
  obtain ⟨v1, vs1, d1, ds1, p1, q1, rfl, rfl, rfl, h1, r1⟩ := trodAll_cons r0
  obtain ⟨v2, vs2, d2, ds2, p2, q2, rfl, rfl, rfl, h2, r2⟩ := trodAll_cons r1
  obtain ⟨rfl, rfl, rfl⟩ := trodAll_nil r2
  obtain rfl : args = #[v0, v1, v2] := by cases args; simp_all
  obtain ⟨rfl, rfl⟩ := trodVars_none hV
  obtain ⟨a0, len0, cap0, rfl⟩ := okWide_slice Try.underlying23 (hval 0 23 v0 rfl rfl)
  have k0 := h0
  have lt0 : ∀ x ∈ p0, x.block < W.heap.size := by obtain ⟨m, hm⟩ := k0; exact DataW.trod_lt m _ _ _ hm
  obtain ⟨z0, w0⟩ : ∃ l : List (Int × Int), RI W (.slice a0 len0 cap0) l ∧ l.length = len0 ∧ len0 ≤ maxLen ∧ ∀ e ∈ l, idIn e := by
    obtain ⟨fuel, hf⟩ := h0
    simp only [Value.cells] at hf
    exact open_dots hf
  have k1 := h1
  have lt1 : ∀ x ∈ p1, x.block < W.heap.size := by obtain ⟨m, hm⟩ := k1; exact DataW.trod_lt m _ _ _ hm
  obtain ⟨a1, b1, rfl, w1⟩ := open_dot (hval 1 25 v1 rfl rfl) h1
  have k2 := h2
  have lt2 : ∀ x ∈ p2, x.block < W.heap.size := by obtain ⟨m, hm⟩ := k2; exact DataW.trod_lt m _ _ _ hm
  obtain ⟨a2, b2, rfl, w2⟩ := open_dot (hval 2 25 v2 rfl rfl) h2
  clear hA0 hval0
  refine (walk a0 len0 cap0 z0 a1 b1 a2 b2 W w0 w1 w2).mono fun e W' ⟨he, bel⟩ => ?_
  subst he
  exact ⟨_, rfl, _, _, _, [], _, [], hW', trodAll_mk1 (shut_bool Try.underlying4 _), (trodAll_cons_mk (Below.trod laidOut2 (by kernel_rfl) (of_decide_eq_true (by kernel_rfl)) k0 bel lt0) (trodAll_cons_mk (Below.trod laidOut2 (by kernel_rfl) (of_decide_eq_true (by kernel_rfl)) k1 bel lt1) (trodAll_cons_mk (Below.trod laidOut2 (by kernel_rfl) (of_decide_eq_true (by kernel_rfl)) k2 bel lt2) trodAll_mk0))), rfl, bel.frame _, fun h => by cases h⟩

theorem over : Rows.vectorAddsRow.holds Try.pinned (OpenSpec.ofChange Rows.vectorAddsSpec) :=
  OpenClaim.holds_of_wide 7 Try.f7 rfl rfl rfl rfl rfl rfl rfl ⟨rfl, rfl, rfl, rfl, rfl⟩ rfl rfl rfl rfl rfl (by kernel_rfl) Try.func7 (by kernel_rfl)
    (of_decide_eq_true (by kernel_rfl)) (by unfold Func.isWrapper; first | (rw [if_pos (by decide +kernel)]; kernel_rfl) | (rw [if_neg (by decide +kernel)]; exact ⟨rfl, rfl⟩))
    (fun os started H enc _ => lifted os started H enc)

end LVectorAdds

theorem vectorAdds_holds : Rows.VectorAddsSaid := LVectorAdds.over

end Go.Proofs.Ytmjhkgpbemjjkaa
