/-
  Has, Add.
-/
import Derived.Test.YtehmbbnmjiojgaaZXV2
set_option linter.unusedSimpArgs false
set_option linter.unusedVariables false
namespace Go.Proofs.Ytehmbbnmjiojgaa
open Go.RowKit Go.Lib

set_option maxRecDepth 100000 in
set_option maxHeartbeats 1000000 in
theorem Has_in (v : Value) (l : List (Int × Int)) (x0 x1 : Int) (w : World) (h : RI w v l) (hl : l.length ≤ 140737488355328) :
    Calls Try.prog 33 #[v, .agg #[.int .i64 x0, .int .i64 x1]] w fun e W => e = .returned (.bool (hasV l (x0, x1))) ∧ Below w.heap.size w W := by
  have HG := hide (fun (W : World) (hb : Below w.heap.size w W) => Get_in v l x0 W (h.below hb) hl)
  obtain ⟨R, hR⟩ : ∃ R, hasV l (x0, x1) = R := ⟨_, rfl⟩
  rw [hR]
  unfold hasV at hR
  simp only at hR
  obtain ⟨a, c, rfl⟩ := h.form
  clear h
  generalize getV l x0 = G at *
  have HX := hide (Bx.new w 33 #[.int .i64 x0, .int .i64 x1])
  by_cases h1 : 1 ≤ x1
  · by_cases h2 : x1 ≤ G
    · obtain rfl : true = R := by rw [← hR]; simp [h1, h2]
      clear hR
      go_enter Try.func33, Try.ntmps33
      go_wp2
      go_region_with (go_at_call 43; refine (unhide HG _ (ballc (Below.refl _ _) _).drew).mono ?_; rintro e W1 ⟨rfl, hb⟩; have d1 := ((unhide HX).below (Below.refl _ _).drew).below hb; have c0 := d1.cell 0 _ rfl; have c1 := d1.cell 1 _ rfl; have b1 := d1.lt; replace hb := hide hb; clear d1)
      all_goals
        go_wp2
        go_ret
        exact ⟨rfl, bnext (ballc (Below.refl _ _) _).drew (unhide hb)⟩
    · obtain rfl : false = R := by rw [← hR]; simp [h2]
      have hd : decide (x1 ≤ G) = false := by simpa using h2
      clear hR
      go_enter Try.func33, Try.ntmps33
      go_wp2
      go_region_with (go_at_call 43; refine (unhide HG _ (ballc (Below.refl _ _) _).drew).mono ?_; rintro e W1 ⟨rfl, hb⟩; have d1 := ((unhide HX).below (Below.refl _ _).drew).below hb; have c0 := d1.cell 0 _ rfl; have c1 := d1.cell 1 _ rfl; have b1 := d1.lt; replace hb := hide hb; clear d1)
      all_goals
        go_wp2
        go_ret
        refine ⟨?_, bnext (ballc (Below.refl _ _) _).drew (unhide hb)⟩
        first
          | rfl
          | (show Ending.returned (.bool (decide (x1 ≤ G))) = _; rw [hd])
  · obtain rfl : false = R := by rw [← hR]; simp [h1]
    have hd : decide (1 ≤ x1) = false := by simpa using h1
    clear hR
    go_enter Try.func33, Try.ntmps33
    go_wp2
    go_region
    go_wp2
    go_ret
    exact ⟨rfl, (ballc (Below.refl _ _) _).drew⟩

theorem addV_ways (l : List (Int × Int)) (x0 x1 : Int) : (isT x0 = false ∧ addV l (x0, x1) = ([], 1)) ∨ (isT x0 = true ∧ x1 < 1 ∧ addV l (x0, x1) = ([], 1)) ∨ (isT x0 = true ∧ 1 ≤ x1 ∧ 2147483647 < x1 ∧ addV l (x0, x1) = ([], 17)) ∨ (isT x0 = true ∧ 1 ≤ x1 ∧ x1 ≤ 2147483647 ∧ x1 - 1 ≠ sy l x0.toNat ∧ addV l (x0, x1) = ([], 9)) ∨ (isT x0 = true ∧ 1 ≤ x1 ∧ x1 ≤ 2147483647 ∧ x1 - 1 = sy l x0.toNat ∧ addV l (x0, x1) = (vec (put1 (sy l) x0.toNat x1), 0)) := by
  unfold addV isT
  by_cases h1 : 1 ≤ x0 ∧ x0 ≤ 16
  · by_cases h2 : x1 < 1
    · exact .inr (.inl ⟨by simpa using h1, h2, by rw [if_pos (.inr h2)]⟩)
    · by_cases h3 : 2147483647 < x1
      · exact .inr (.inr (.inl ⟨by simpa using h1, by omega, h3, by rw [if_neg (by simp; omega), if_pos h3]⟩))
      · by_cases h4 : x1 - 1 = sy l x0.toNat
        · exact .inr (.inr (.inr (.inr ⟨by simpa using h1, by omega, by omega, h4, by rw [if_neg (by simp; omega), if_neg h3, if_neg (by simpa using h4)]⟩)))
        · exact .inr (.inr (.inr (.inl ⟨by simpa using h1, by omega, by omega, h4, by rw [if_neg (by simp; omega), if_neg h3, if_pos h4]⟩)))
  · exact .inl ⟨by simpa using h1, by rw [if_pos (.inl h1)]⟩

set_option maxRecDepth 100000 in
set_option maxHeartbeats 1000000 in
theorem Add_in (v : Value) (l : List (Int × Int)) (x0 x1 : Int) (w : World) (h : RI w v l) (hl : l.length ≤ 140737488355328) (hx : x1 ≤ 9223372036854775807) :
    Calls Try.prog 30 #[v, .agg #[.int .i64 x0, .int .i64 x1]] w fun e W => ∃ v', e = .returned (.tuple #[v', .int .i64 (addV l (x0, x1)).2]) ∧ OwD W w.heap.size v' (addV l (x0, x1)).1 ∧ Below w.heap.size w W := by
  have HR := hide (read_in v l (w.alloc (.cells #[.int .i64 x0, .int .i64 x1] 33)) (h.below (ballc (Below.refl _ _) _)) hl)
  obtain ⟨a, c, rfl⟩ := h.form
  clear h
  have HX := hide (Bx.new w 33 #[.int .i64 x0, .int .i64 x1])
  have HT := hide (fun W => isSite_in x0 W)
  rcases addV_ways l x0 x1 with ⟨h1, e⟩ | ⟨h1, h2, e⟩ | ⟨h1, h2, h3, e⟩ | ⟨h1, h2, h3, h4, e⟩ | ⟨h1, h2, h3, h4, e⟩
  all_goals
    rw [e]
    rw [h1] at HT
    clear e
    generalize sy l = s at *
    go_enter Try.func30, Try.ntmps30
    go_wp2_with fail
    refine (unhide HR).mono ?_
    rintro e W1 ⟨rfl, hb1⟩
    have X1 := (unhide HX).below hb1
    replace hb1 := hide (bnext (ballc (Below.refl _ w) (.cells #[.int .i64 x0, .int .i64 x1] 33)) hb1)
    have hw1 := X1.lt
    have E1 := hide (Bx.new W1 73 (arr (fun _ => 0)))
    obtain ⟨X, hX⟩ : ∃ X, (W1.alloc (.cells #[.int .i64 0, .int .i64 0, .int .i64 0, .int .i64 0, .int .i64 0, .int .i64 0, .int .i64 0, .int .i64 0, .int .i64 0, .int .i64 0, .int .i64 0, .int .i64 0, .int .i64 0, .int .i64 0, .int .i64 0, .int .i64 0, .int .i64 0] 73)).setRow W1.heap.size (arr s) = X := ⟨_, rfl⟩
    have E2 : Bx X W1.heap.size 73 (arr s) := by rw [← hX]; exact (unhide E1).setRow (arr s)
    have X2 : Bx X w.heap.size 33 #[.int .i64 x0, .int .i64 x1] := by rw [← hX]; exact (X1.below (ballc (Below.refl _ _) (.cells (arr (fun _ => 0)) 73))).setRowO (g := W1.heap.size) (by omega) (arr s)
    have B2 : Below w.heap.size w X := by rw [← hX]; exact (below_setRow (ballc (unhide hb1) (.cells (arr (fun _ => 0)) 73)) W1.heap.size (by omega) (arr s))
    have c0 := X2.cell 0 _ rfl
    have c1 := X2.cell 1 _ rfl
    have hw2 := X2.lt
    replace hX := hide hX
    replace E2 := hide E2
    replace X2 := hide X2
    replace B2 := hide B2
    clear X1 HR HX
    go_wp2_with (first | (refine wpl_store17 info17 rfl _ _ rfl rfl rfl (unhide E1) ?_; rw [unhide hX]) | (go_at_call 31; refine (unhide HT _).mono ?_; rintro e W1 ⟨rfl, rfl⟩))
  · refine bodyPost_ret (results_tmp2 rfl _ _ _) rfl ?_
    exact ⟨_, rfl, World.ownsRow_nil _ _ _ _, unhide B2⟩
  · refine bodyPost_ret (results_tmp2 rfl _ _ _) rfl ?_
    exact ⟨_, rfl, World.ownsRow_nil _ _ _ _, unhide B2⟩
  · refine bodyPost_ret (results_tmp2 rfl _ _ _) rfl ?_
    exact ⟨_, rfl, World.ownsRow_nil _ _ _ _, unhide B2⟩
  · have kT : 1 ≤ x0 ∧ x0 ≤ 16 := by unfold isT at h1; simpa using h1
    obtain ⟨k, rfl⟩ : ∃ k : Nat, x0 = (k : Int) := ⟨x0.toNat, by omega⟩
    rw [Int.toNat_natCast] at h4
    have hk : k < 17 := by omega
    have hk' : (k : Int) < 17 := by omega
    have cA := (unhide E2).cell k _ (arr_get s k hk)
    have hwx : wrap64 (x1 - 1) = x1 - 1 := IntWalk.wrap64_in _ (by omega)
    have hwy : IntKind.i64.wrap (x1 - 1) = x1 - 1 := IntWalk.i64_in _ (by omega)
    have hq : (x1 - 1 == s k) = false := by simpa using h4
    clear h4 kT h1
    go_region
    go_wp2
    refine bodyPost_ret (results_tmp2 rfl _ _ _) rfl ?_
    exact ⟨_, rfl, World.ownsRow_nil _ _ _ _, (unhide B2).drew⟩
  · have kT : 1 ≤ x0 ∧ x0 ≤ 16 := by unfold isT at h1; simpa using h1
    obtain ⟨k, rfl⟩ : ∃ k : Nat, x0 = (k : Int) := ⟨x0.toNat, by omega⟩
    rw [Int.toNat_natCast] at h4
    have hk : k < 17 := by omega
    have hk' : (k : Int) < 17 := by omega
    have cA := (unhide E2).cell k _ (arr_get s k hk)
    have fA := (unhide E2).frozen k
    have hw3 := (unhide E2).lt
    have hwx : wrap64 (x1 - 1) = x1 - 1 := IntWalk.wrap64_in _ (by omega)
    have hwy : IntKind.i64.wrap (x1 - 1) = x1 - 1 := IntWalk.i64_in _ (by omega)
    have hq : (x1 - 1 == s k) = true := by simpa using h4
    have E3 := (unhide E2).set k (.int .i64 x1)
    rw [arr_set _ _ _ hk] at E3
    have B3 := hide (bset (unhide B2) ⟨W1.heap.size, k, none⟩ (by show w.heap.size ≤ W1.heap.size; omega) (.int .i64 x1)).drew
    replace E3 := hide (E3.below (Below.refl _ _).drew)
    have HV := hide (vector_in (put1 s k x1) (X.setCell ⟨W1.heap.size, k, none⟩ (.int .i64 x1)).drew)
    clear h4 kT h1
    go_region
    go_wp2_with (first | refine wpl_load17 und17 info17 rfl _ rfl rfl (unhide E3) ?_ | (go_at_call 39; refine (unhide HV).mono ?_; rintro e W5 ⟨v', rfl, ho, hb⟩; obtain ⟨av, cv, rfl⟩ := ho.form; replace ho := hide ho; replace hb := hide hb))
    refine bodyPost_ret (results_tmp2 rfl _ _ _) rfl ?_
    exact ⟨_, rfl, (unhide ho).base (unhide B3).size, bnext (unhide B3) (unhide hb)⟩

end Go.Proofs.Ytehmbbnmjiojgaa
