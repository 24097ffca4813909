/-
  The document's own: Covers, Merge, Least, Add.
-/
import Derived.Test.YtijjoikeceechaaGreatZXU
set_option linter.unusedSimpArgs false
set_option linter.unusedVariables false
namespace Go.Proofs.YtijjoikeceechaaGreat
open Go.RowKit Go.Lib

theorem cov_some {s t : Nat → Int} {k : Nat} (hk : k < 17) (h : s k < t k) : cov s t = false := by
  rw [Bool.eq_false_iff]
  intro e
  unfold cov at e
  rw [List.all_eq_true] at e
  have := e k (List.mem_range.2 hk)
  simp at this
  omega
theorem cov_all {s t : Nat → Int} (h : ∀ i, i < 17 → t i ≤ s i) : cov s t = true := by
  unfold cov
  rw [List.all_eq_true]
  intro i hi
  have := h i (List.mem_range.1 hi)
  simp
  omega

set_option maxRecDepth 100000 in
set_option maxHeartbeats 2000000 in
theorem refCovers_in (v u : Value) (l m : List (Int × Int)) (w : World) (h : RI w v l) (k : RI w u m) (hl : l.length ≤ 140737488355328) (hm : m.length ≤ 140737488355328) :
    Calls Tryz.prog 53 #[v, u] w fun e W => e = .returned (.bool (cov (sy l) (sy m))) ∧ Below w.heap.size w W := by
  obtain ⟨a, c, rfl⟩ := h.form
  obtain ⟨a2, c2, rfl⟩ := k.form
  have R1 := hide (Says_in _ l w h hl)
  have K := hide k
  generalize sy l = s at *
  obtain ⟨t, ht⟩ : ∃ t, sy m = t := ⟨_, rfl⟩
  rw [ht]
  replace ht := hide ht
  obtain ⟨R, hR⟩ : ∃ R, cov s t = R := ⟨_, rfl⟩
  rw [hR]
  replace hR := hide hR
  clear h k
  go_enter Tryz.func53, Tryz.ntmps53
  go_wp2_with fail
  refine (unhide R1).mono ?_
  rintro e W1 ⟨rfl, hb⟩
  have E1 := hide (Bx.new W1 86 (arr (fun _ => 0)))
  obtain ⟨X, hX⟩ : ∃ X, (W1.alloc (.cells #[.int .i64 0, .int .i64 0, .int .i64 0, .int .i64 0, .int .i64 0, .int .i64 0, .int .i64 0, .int .i64 0, .int .i64 0, .int .i64 0, .int .i64 0, .int .i64 0, .int .i64 0, .int .i64 0, .int .i64 0, .int .i64 0, .int .i64 0] 86)).setRow W1.heap.size (arr s) = X := ⟨_, rfl⟩
  have X1 : Hid (Bx X W1.heap.size 86 (arr s)) := by rw [← hX]; exact (unhide E1).setRow (arr s)
  have B1 : Hid (Below w.heap.size w X) := by rw [← hX]; exact below_setRow (ballc hb (.cells (arr (fun _ => 0)) 86)) W1.heap.size hb.size (arr s)
  have R2 := hide (Says_in _ m X ((unhide K).below (unhide B1)) hm)
  rw [unhide ht] at R2
  have hwq : w.heap.size ≤ W1.heap.size := hb.size
  replace hX := hide hX
  clear hb R1
  go_wp2_with (refine wpl_store17 info17r rfl _ _ rfl rfl rfl (unhide E1) ?_; rw [unhide hX])
  refine (unhide R2).mono ?_
  rintro e W2 ⟨rfl, hb2⟩
  clear E1 hX
  generalize W1.heap.size = q at *
  have F1 := hide (Bx.new W2 86 (arr (fun _ => 0)))
  obtain ⟨Y, hY⟩ : ∃ Y, (W2.alloc (.cells #[.int .i64 0, .int .i64 0, .int .i64 0, .int .i64 0, .int .i64 0, .int .i64 0, .int .i64 0, .int .i64 0, .int .i64 0, .int .i64 0, .int .i64 0, .int .i64 0, .int .i64 0, .int .i64 0, .int .i64 0, .int .i64 0, .int .i64 0] 86)).setRow W2.heap.size (arr t) = Y := ⟨_, rfl⟩
  have hqx := (unhide X1).lt
  have hq2 : q < W2.heap.size := by have := hb2.size; omega
  have Y1 : Hid (Bx Y q 86 (arr s)) := by rw [← hY]; exact (((unhide X1).below hb2).below (ballc (Below.refl _ _) _)).setRowO (by omega) _
  have Y2 : Hid (Bx Y W2.heap.size 86 (arr t)) := by rw [← hY]; exact (unhide F1).setRow (arr t)
  have B2 : Hid (Below w.heap.size w Y) := by rw [← hY]; exact below_setRow (ballc (bnext (unhide B1) hb2) (.cells (arr (fun _ => 0)) 86)) W2.heap.size (by omega) (arr t)
  replace hY := hide hY
  clear hb2 R2 X1 B1 hqx
  go_wp2_with (refine wpl_store17 info17r rfl _ _ rfl rfl rfl (unhide F1) ?_; rw [unhide hY])
  clear F1 hY
  generalize W2.heap.size = r at *
  go_loopw [7] (fun iv wr => ∃ (k n : Nat), iv = .int .i64 (k : Nat) ∧ k ≤ 17 ∧ Hid (∀ i, i < k → t i ≤ s i) ∧ wr = Y.drewN n) (fun iv _ => 17 - (intOf iv).toNat)
  case atStart => exact ⟨0, 0, rfl, by omega, hide (fun i hi => by omega), rfl⟩
  case round =>
    obtain ⟨k, n, rfl, hk, HS, rfl⟩ := hrel
    by_cases hlt : k < 17
    · have hlt' : (k : Int) < 17 := by omega
      have cA := (unhide Y1).cell k _ (arr_get s k hlt)
      have cB := (unhide Y2).cell k _ (arr_get t k hlt)
      by_cases hc : s k < t k
      · have he := hide (show R = false by rw [← unhide hR]; exact cov_some hlt hc)
        go_wp2
        go_quiet (fail)
        go_wp2
        go_ret
        exact ⟨by rw [unhide he]; rfl, bdrew (bdrew (unhide B2) _) _⟩
      · have HS2 : Hid (∀ i, i < k + 1 → t i ≤ s i) := fun i hi => by
          by_cases e : i = k
          · rw [e]; omega
          · exact unhide HS i (by omega)
        go_wp2
        go_quiet (fail)
        go_wp2
        go_roundw
        case measure => show 17 - ((k : Int) + 1).toNat < 17 - ((k : Nat) : Int).toNat; omega
        case rel => exact ⟨k + 1, _, by go_num, by omega, HS2, rfl⟩
    · have hlt' : ¬ (k : Int) < 17 := by omega
      have he := hide (show R = true by rw [← unhide hR]; exact cov_all fun i hi => unhide HS i (by omega))
      go_wp2
      go_ret
      exact ⟨by rw [unhide he]; rfl, bdrew (unhide B2) _⟩

set_option maxRecDepth 100000 in
set_option maxHeartbeats 2000000 in
theorem refMerge_in (v u : Value) (l m : List (Int × Int)) (w : World) (h : RI w v l) (k : RI w u m) (hl : l.length ≤ 140737488355328) (hm : m.length ≤ 140737488355328) :
    Calls Tryz.prog 29 #[v, u] w fun e W => ∃ v', e = .returned v' ∧ OwD W w.heap.size v' (vec (mrg (sy l) (sy m))) ∧ Below w.heap.size w W := by
  have HZ := hide (((sy_good l).mrg (sy_good m)).zero)
  obtain ⟨a, c, rfl⟩ := h.form
  obtain ⟨a2, c2, rfl⟩ := k.form
  have R1 := hide (Says_in _ l w h hl)
  have K := hide k
  generalize sy l = s at *
  obtain ⟨t, ht⟩ : ∃ t, sy m = t := ⟨_, rfl⟩
  rw [ht] at HZ ⊢
  replace ht := hide ht
  clear h k
  go_enter Tryz.func29, Tryz.ntmps29
  go_wp2_with fail
  refine (unhide R1).mono ?_
  rintro e W1 ⟨rfl, hb⟩
  have E1 := hide (Bx.new W1 86 (arr (fun _ => 0)))
  obtain ⟨X, hX⟩ : ∃ X, (W1.alloc (.cells #[.int .i64 0, .int .i64 0, .int .i64 0, .int .i64 0, .int .i64 0, .int .i64 0, .int .i64 0, .int .i64 0, .int .i64 0, .int .i64 0, .int .i64 0, .int .i64 0, .int .i64 0, .int .i64 0, .int .i64 0, .int .i64 0, .int .i64 0] 86)).setRow W1.heap.size (arr s) = X := ⟨_, rfl⟩
  have X1 : Hid (Bx X W1.heap.size 86 (arr s)) := by rw [← hX]; exact (unhide E1).setRow (arr s)
  have B1 : Hid (Below w.heap.size w X) := by rw [← hX]; exact below_setRow (ballc hb (.cells (arr (fun _ => 0)) 86)) W1.heap.size hb.size (arr s)
  have R2 := hide (Says_in _ m X ((unhide K).below (unhide B1)) hm)
  rw [unhide ht] at R2
  have hwq : w.heap.size ≤ W1.heap.size := hb.size
  replace hX := hide hX
  clear hb R1
  go_wp2_with (refine wpl_store17 info17r rfl _ _ rfl rfl rfl (unhide E1) ?_; rw [unhide hX])
  refine (unhide R2).mono ?_
  rintro e W2 ⟨rfl, hb2⟩
  clear E1 hX
  generalize W1.heap.size = q at *
  have F1 := hide (Bx.new W2 86 (arr (fun _ => 0)))
  obtain ⟨Y, hY⟩ : ∃ Y, (W2.alloc (.cells #[.int .i64 0, .int .i64 0, .int .i64 0, .int .i64 0, .int .i64 0, .int .i64 0, .int .i64 0, .int .i64 0, .int .i64 0, .int .i64 0, .int .i64 0, .int .i64 0, .int .i64 0, .int .i64 0, .int .i64 0, .int .i64 0, .int .i64 0] 86)).setRow W2.heap.size (arr t) = Y := ⟨_, rfl⟩
  have hqx := (unhide X1).lt
  have hq2 : q < W2.heap.size := by have := hb2.size; omega
  have Y1 : Hid (Bx Y q 86 (arr s)) := by rw [← hY]; exact (((unhide X1).below hb2).below (ballc (Below.refl _ _) _)).setRowO (by omega) _
  have Y2 : Hid (Bx Y W2.heap.size 86 (arr t)) := by rw [← hY]; exact (unhide F1).setRow (arr t)
  have B2 : Hid (Below w.heap.size w Y) := by rw [← hY]; exact below_setRow (ballc (bnext (unhide B1) hb2) (.cells (arr (fun _ => 0)) 86)) W2.heap.size (by omega) (arr t)
  replace hY := hide hY
  clear hb2 R2 X1 B1 hqx
  go_wp2_with (refine wpl_store17 info17r rfl _ _ rfl rfl rfl (unhide F1) ?_; rw [unhide hY])
  clear F1 hY
  generalize W2.heap.size = r at *
  go_loopw [7] (fun iv wr => ∃ (k : Nat), iv = .int .i64 (k : Nat) ∧ k ≤ 17 ∧ Hid (Bx wr q 86 (arr (mixN max s t k))) ∧ Hid (Bx wr r 86 (arr t)) ∧ Hid (Below w.heap.size w wr)) (fun iv _ => 17 - (intOf iv).toNat)
  case atStart => exact ⟨0, rfl, by omega, hide (by rw [mixN_zero]; exact unhide Y1), Y2, B2⟩
  case round =>
    clear Y1 Y2 B2
    obtain ⟨k, rfl, hk, Y1, Y2, B2⟩ := hrel
    by_cases hlt : k < 17
    · have hlt' : (k : Int) < 17 := by omega
      have cA := (unhide Y1).cell k _ (arr_get _ k hlt)
      have fA := (unhide Y1).frozen k
      have cB := (unhide Y2).cell k _ (arr_get t k hlt)
      rw [mixN_at] at cA
      have hrl := (unhide Y2).lt
      have fin : ∀ x : Int, x = max (s k) (t k) → Hid (Bx (wr.setCell ⟨q, k, none⟩ (.int .i64 x)).drew q 86 (arr (mixN max s t (k + 1)))) ∧ Hid (Bx (wr.setCell ⟨q, k, none⟩ (.int .i64 x)).drew r 86 (arr t)) ∧ Hid (Below w.heap.size w (wr.setCell ⟨q, k, none⟩ (.int .i64 x)).drew) := by
        rintro x rfl
        refine ⟨hide ?_, hide ?_, hide ?_⟩
        · have e := (unhide Y1).set k (.int .i64 (max (s k) (t k)))
          rw [arr_set _ _ _ hlt, mixN_step] at e
          exact e.below (Below.refl _ _).drew
        · exact ((unhide Y2).setO ⟨q, k, none⟩ (by show r ≠ q; omega) _).below (Below.refl _ _).drew
        · exact (bset (unhide B2) ⟨q, k, none⟩ hwq _).drew
      replace fin := hide fin
      by_cases hc : s k < t k
      · go_wp2
        go_region
        go_wp2
        go_roundw
        case measure => show 17 - ((k : Int) + 1).toNat < 17 - ((k : Nat) : Int).toNat; omega
        case rel => exact ⟨k + 1, by go_num, by omega, unhide fin _ (by omega)⟩
      · have hc2 : t k ≤ s k := by omega
        by_cases hc3 : t k < s k
        · go_wp2
          go_region
          go_wp2
          go_roundw
          case measure => show 17 - ((k : Int) + 1).toNat < 17 - ((k : Nat) : Int).toNat; omega
          case rel => exact ⟨k + 1, by go_num, by omega, unhide fin _ (by omega)⟩
        · have hc4 : s k ≤ t k := by omega
          go_wp2
          go_region
          go_wp2
          go_roundw
          case measure => show 17 - ((k : Int) + 1).toNat < 17 - ((k : Nat) : Int).toNat; omega
          case rel => exact ⟨k + 1, by go_num, by omega, unhide fin _ (by omega)⟩
    · have hlt' : ¬ (k : Int) < 17 := by omega
      obtain rfl : k = 17 := by omega
      have e : arr (mixN max s t 17) = arr (mrg s t) := arr_congr fun i hi => by unfold mixN mrg; rw [if_pos hi]
      rw [e] at Y1
      have HV := hide (Of_in (mrg s t) (unhide HZ) wr)
      clear e
      go_wp2_with (first | refine wpl_load17 und17r info17r rfl _ rfl rfl (unhide Y1) ?_ | (go_at_call 51; refine (unhide HV).mono ?_; rintro e W5 ⟨v', rfl, ho, hb⟩; obtain ⟨av, cv, rfl⟩ := ho.form; replace ho := hide ho; replace hb := hide hb))
      go_ret
      exact ⟨_, rfl, (unhide ho).base (unhide B2).size, bnext (unhide B2) (unhide hb)⟩

end Go.Proofs.YtijjoikeceechaaGreat
