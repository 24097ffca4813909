/-
  The vector of a row; choose.
-/
import Derived.Test.YtmjhkgpbemjjkaaZV2
import Derived.Test.YtmjhkgpbemjjkaaZW0
import Derived.Deep.RegionWith
set_option linter.unusedSimpArgs false
set_option linter.unusedVariables false
namespace Go.Proofs.Ytmjhkgpbemjjkaa
open Go.RowKit Go.Lib

theorem index17 (s : Nat → Int) (k : Nat) (hk : k < 17) (w : World) : (Instr.index 69 (.agg (arr s)) (.int .i64 (k : Nat))).run Try.prog w = .ok (.int .i64 (s k)) w := by
  have e := arr_get s k hk
  have h1 : (k : Int) < 17 := by omega
  simp [Instr.index, run_underlying und17, go_sem, arr_size, e, hk, h1]
  rw [Array.getElem?_eq_getElem (by rw [arr_size]; exact hk)] at e
  exact Option.some.inj e

/-- a row of Dots of one's own -/
def OwD (W : World) (B : Nat) (v : Value) (l : List (Int × Int)) : Prop := W.ownsRow B 25 2 v l.length (flat encI l)
theorem OwD.row {W : World} {B : Nat} {v : Value} {l : List (Int × Int)} (h : OwD W B v l) : RI W v l := RC.of_owns h
theorem OwD.base {W : World} {B B' : Nat} {v : Value} {l : List (Int × Int)} (h : OwD W B v l) (hb : B' ≤ B) : OwD W B' v l := by
  obtain ⟨h1, h2⟩ := h
  refine ⟨h1, h2.imp id ?_⟩
  rintro ⟨g, cap, cur, e1, e2, e3⟩
  exact ⟨g, cap, cur, e1, by omega, e3⟩
theorem OwD.form {W : World} {B : Nat} {v : Value} {l : List (Int × Int)} (h : OwD W B v l) : ∃ a c, v = .slice a l.length c := owns_form h

set_option maxRecDepth 100000 in
set_option maxHeartbeats 1000000 in
theorem vector_in (s : Nat → Int) (w : World) :
    Calls Try.prog 47 #[.agg (arr s)] w fun e W => ∃ v', e = .returned v' ∧ OwD W w.heap.size v' (vec s) ∧ Below w.heap.size w W := by
  go_enter Try.func47, Try.ntmps47
  have HB := hide (Bx.new w 69 (arr s))
  go_wp2_with (refine wpl_load17 und17 info17 rfl _ rfl rfl (unhide HB) ?_)
  go_loopw [3, 7] (fun vv iv wr => ∃ (k : Nat), iv = .int .i64 (k : Nat) ∧ k ≤ 17 ∧ Hid (OwD wr w.heap.size vv (vecN s k)) ∧ Hid (Below w.heap.size w wr)) (fun _ iv _ => 17 - (intOf iv).toNat)
  case atStart => exact ⟨0, rfl, by omega, hide (World.ownsRow_nil _ _ _ _), hide (ballc (Below.refl _ _) _)⟩
  case round =>
    obtain ⟨k, rfl, hk, HO, HK⟩ := hrel
    obtain ⟨av, cv, hv⟩ := (unhide HO).form
    by_cases hlt : k < 17
    · have hlt' : (k : Int) < 17 := by omega
      have hi := fun W => index17 s k hlt W
      have hln : (vecN s k).length ≤ 17 := by have := vecN_len s k; omega
      by_cases hp : 0 < s k
      · obtain ⟨v', w', hr, hown, hgr, hat⟩ := append_dot wr 23 w.heap.size _ (vecN s k) k (s k) (unhide HO) (unhide HK).size (by omega)
        subst hv
        have Hr := hide hr
        have HO2 : Hid (OwD w' w.heap.size v' (vecN s (k + 1))) := by rw [vecN_pos hp]; exact hown
        have HK2 := hide ((ballc (unhide HK) (.cells #[.int .i64 (k : Nat), .int .i64 (s k)] 25)).grown hgr (ballc (unhide HK) _).size (fun j hj => ((unhide HO).lt j hj).1))
        clear hr hown hgr hat
        obtain ⟨av', cv', hv'⟩ := (unhide HO2).form
        subst hv'
        go_wp2_with (at_builtin; refine wpList_append_eq rfl _ _ 23 rfl _ _ _ _ rfl rfl (unhide Hr) ?_)
        go_roundw
        case measure => show 17 - ((k : Int) + 1).toNat < 17 - ((k : Nat) : Int).toNat; omega
        case rel => exact ⟨k + 1, by go_num, by omega, HO2, HK2⟩
      · subst hv
        have HO2 : Hid (OwD wr w.heap.size (.slice av (vecN s k).length cv) (vecN s (k + 1))) := by rw [vecN_neg hp]; exact unhide HO
        go_wp2
        go_roundw
        case measure => show 17 - ((k : Int) + 1).toNat < 17 - ((k : Nat) : Int).toNat; omega
        case rel => exact ⟨k + 1, by go_num, by omega, HO2, HK⟩
    · have hlt' : ¬ (k : Int) < 17 := by omega
      obtain rfl : k = 17 := by omega
      subst hv
      go_wp2
      go_ret
      exact ⟨_, rfl, unhide HO, unhide HK⟩


theorem arr_congr {s t : Nat → Int} (h : ∀ i, i < 17 → s i = t i) : arr s = arr t := by
  unfold arr
  congr 1
  exact List.map_congr_left fun i hi => by rw [h i (List.mem_range.1 hi)]
theorem Bx.setRowO {W : World} {b g : Nat} {t : TypeId} {vs : Array Value} (h : Bx W b t vs) (hg : g ≠ b) (us : Array Value) : Bx (W.setRow g us) b t vs := by
  have e : W.heap[b]? = some (.cells vs t (0, 0)) := h
  unfold Bx World.setRow
  simp [Array.getElem?_modify, e, hg]
/-- so far chosen -/
def mixN (f : Int → Int → Int) (s t : Nat → Int) (k : Nat) : Nat → Int := fun i => if i < k then f (s i) (t i) else s i
theorem mixN_zero (f : Int → Int → Int) (s t : Nat → Int) : mixN f s t 0 = s := by funext i; simp [mixN]
theorem mixN_step (f : Int → Int → Int) (s t : Nat → Int) (k : Nat) : put1 (mixN f s t k) k (f (s k) (t k)) = mixN f s t (k + 1) := by
  funext i
  unfold put1 mixN
  by_cases h : i = k
  · subst h; rw [if_pos rfl, if_pos (by omega)]
  · rw [if_neg h]
    by_cases h2 : i < k
    · rw [if_pos h2, if_pos (by omega)]
    · rw [if_neg h2, if_neg (by omega)]
theorem mixN_at (f : Int → Int → Int) (s t : Nat → Int) (k : Nat) : mixN f s t k k = s k := by simp [mixN]

set_option maxRecDepth 100000 in
set_option maxHeartbeats 2000000 in
theorem choosegreater_in (v u : Value) (l m : List (Int × Int)) (w : World) (h : RI w v l) (k : RI w u m) (hl : l.length ≤ 140737488355328) (hm : m.length ≤ 140737488355328) :
    Calls Try.prog 51 #[v, u, .func (.func 52) #[] #[]] w fun e W => e = .returned (.agg (arr (mrg (sy l) (sy m)))) ∧ Below w.heap.size w W := by
  obtain ⟨a, c, rfl⟩ := h.form
  obtain ⟨a2, c2, rfl⟩ := k.form
  have R1 := hide (fun (o : Obj) => read_in _ l (w.alloc o) (h.below (ballc (Below.refl _ _) o)) hl)
  have K := hide k
  generalize sy l = s at *
  obtain ⟨t, ht⟩ : ∃ t, sy m = t := ⟨_, rfl⟩
  rw [ht]
  replace ht := hide ht
  clear h k
  go_enter Try.func51, Try.ntmps51
  go_wp2_with fail
  refine (unhide R1 _).mono ?_
  rintro e W1 ⟨rfl, hb1⟩
  have A1 : Bx W1 w.heap.size 69 (arr (fun _ => 0)) := (Bx.new w 69 (arr (fun _ => 0))).below hb1
  replace hb1 := bnext (ballc (Below.refl _ w) (.cells (arr (fun _ => 0)) 69)) hb1
  have R2 := hide (read_in _ m W1 ((unhide K).below hb1) hm)
  rw [unhide ht] at R2
  replace A1 := hide A1
  replace hb1 := hide hb1
  go_wp2_with fail
  refine (unhide R2).mono ?_
  rintro e W2 ⟨rfl, hb2⟩
  have A2 := hide ((unhide A1).below hb2)
  have B2 := hide (bnext (unhide hb1) hb2)
  clear R1 R2 A1 hb1 hb2 K
  have hw2 := (unhide A2).lt
  have E1 : Hid (Bx ((W2.alloc (.cells (arr (fun _ => 0)) 69)).alloc (.cells (arr (fun _ => 0)) 69)) W2.heap.size 69 (arr (fun _ => 0))) := (Bx.new W2 _ _).below (ballc (Below.refl _ _) _)
  have E2 : Hid (Bx (((W2.alloc (.cells (arr (fun _ => 0)) 69)).alloc (.cells (arr (fun _ => 0)) 69)).setRow W2.heap.size (arr s)) (W2.heap.size + 1) 69 (arr (fun _ => 0))) := by
    have := Bx.new (W2.alloc (.cells (arr (fun _ => 0)) 69)) 69 (arr (fun _ => 0))
    rw [show (W2.alloc (.cells (arr (fun _ => 0)) 69)).heap.size = W2.heap.size + 1 by simp] at this
    exact this.setRowO (by omega) _
  go_wp2_with (first | refine wpl_store17 info17 rfl _ _ rfl rfl rfl (unhide E1) ?_ | refine wpl_store17 info17 rfl _ _ rfl rfl rfl (unhide E2) ?_)
  go_loopw [14] (fun iv wr => ∃ (k : Nat), iv = .int .i64 (k : Nat) ∧ k ≤ 17 ∧ Hid (Bx wr W2.heap.size 69 (arr (mixN max s t k))) ∧ Hid (Bx wr (W2.heap.size + 1) 69 (arr t)) ∧ Hid (Bx wr w.heap.size 69 (arr (fun _ => 0))) ∧ Hid (Below w.heap.size w wr)) (fun iv _ => 17 - (intOf iv).toNat)
  case atStart =>
    refine ⟨0, rfl, by omega, hide ?_, hide ?_, hide ?_, hide ?_⟩
    · rw [mixN_zero]; exact ((unhide E1).setRow _).setRowO (by omega) _
    · exact (unhide E2).setRow _
    · exact ((((unhide A2).below (ballc (Below.refl _ _) _)).below (ballc (Below.refl _ _) _)).setRowO (by omega) _).setRowO (by omega) _
    · exact below_setRow (below_setRow (ballc (ballc (unhide B2) _) _) _ (by omega) _) _ (by omega) _
  case round =>
    obtain ⟨k, rfl, hk, HS, HT, HA, HK⟩ := hrel
    clear E1 E2 A2 B2
    have hl1 := (unhide HT).lt
    by_cases hlt : k < 17
    · have hlt' : (k : Int) < 17 := by omega
      have c1 := (unhide HS).cell k _ (arr_get _ k hlt)
      have f1 := (unhide HS).frozen k
      have c2 := (unhide HT).cell k _ (arr_get _ k hlt)
      rw [mixN_at] at c1
      have HP := hide (fun W => greater_in (s k) (t k) W)
      go_wp2
      go_region_with (go_at_call 52; refine (unhide HP _).mono ?_; rintro e W9 ⟨rfl, rfl⟩)
      all_goals
        go_wp2
        go_roundw
        case measure => show 17 - ((k : Int) + 1).toNat < 17 - ((k : Nat) : Int).toNat; omega
        case rel =>
          refine ⟨k + 1, by go_num, by omega, hide ?_, hide ?_, hide ?_, hide ?_⟩
          · have e := (unhide HS).set k (.int .i64 (max (s k) (t k)))
            rw [arr_set _ _ _ hlt, mixN_step] at e
            exact e.below (Below.refl _ _).drew
          · exact ((unhide HT).setO ⟨W2.heap.size, k, none⟩ (by simp) _).below (Below.refl _ _).drew
          · exact ((unhide HA).setO ⟨W2.heap.size, k, none⟩ (by show w.heap.size ≠ W2.heap.size; omega) _).below (Below.refl _ _).drew
          · exact (bset (unhide HK) ⟨W2.heap.size, k, none⟩ (by show w.heap.size ≤ W2.heap.size; omega) _).drew
    · have hlt' : ¬ (k : Int) < 17 := by omega
      obtain rfl : k = 17 := by omega
      have e : arr (mixN max s t 17) = arr (mrg s t) := arr_congr fun i hi => by unfold mixN mrg; rw [if_pos hi]
      rw [e] at HS
      have HA2 := hide ((unhide HA).setRow (arr (mrg s t)))
      have HK2 := hide (below_setRow (unhide HK) w.heap.size (Nat.le_refl _) (arr (mrg s t)))
      clear e
      go_wp2_with (first | refine wpl_load17 und17 info17 rfl _ rfl rfl (unhide HS) ?_ | refine wpl_store17 info17 rfl _ _ rfl rfl rfl (unhide HA) ?_)
      refine bodyPost_ret (results_cell_row rfl _ _ w.heap.size _ _ _ _ rfl (unhide HA2) und17 rfl (by rw [arr_size]; exact info17)) rfl ?_
      exact ⟨rfl, unhide HK2⟩

set_option maxRecDepth 100000 in
set_option maxHeartbeats 2000000 in
theorem chooselesser_in (v u : Value) (l m : List (Int × Int)) (w : World) (h : RI w v l) (k : RI w u m) (hl : l.length ≤ 140737488355328) (hm : m.length ≤ 140737488355328) :
    Calls Try.prog 51 #[v, u, .func (.func 53) #[] #[]] w fun e W => e = .returned (.agg (arr (lst (sy l) (sy m)))) ∧ Below w.heap.size w W := by
  obtain ⟨a, c, rfl⟩ := h.form
  obtain ⟨a2, c2, rfl⟩ := k.form
  have R1 := hide (fun (o : Obj) => read_in _ l (w.alloc o) (h.below (ballc (Below.refl _ _) o)) hl)
  have K := hide k
  generalize sy l = s at *
  obtain ⟨t, ht⟩ : ∃ t, sy m = t := ⟨_, rfl⟩
  rw [ht]
  replace ht := hide ht
  clear h k
  go_enter Try.func51, Try.ntmps51
  go_wp2_with fail
  refine (unhide R1 _).mono ?_
  rintro e W1 ⟨rfl, hb1⟩
  have A1 : Bx W1 w.heap.size 69 (arr (fun _ => 0)) := (Bx.new w 69 (arr (fun _ => 0))).below hb1
  replace hb1 := bnext (ballc (Below.refl _ w) (.cells (arr (fun _ => 0)) 69)) hb1
  have R2 := hide (read_in _ m W1 ((unhide K).below hb1) hm)
  rw [unhide ht] at R2
  replace A1 := hide A1
  replace hb1 := hide hb1
  go_wp2_with fail
  refine (unhide R2).mono ?_
  rintro e W2 ⟨rfl, hb2⟩
  have A2 := hide ((unhide A1).below hb2)
  have B2 := hide (bnext (unhide hb1) hb2)
  clear R1 R2 A1 hb1 hb2 K
  have hw2 := (unhide A2).lt
  have E1 : Hid (Bx ((W2.alloc (.cells (arr (fun _ => 0)) 69)).alloc (.cells (arr (fun _ => 0)) 69)) W2.heap.size 69 (arr (fun _ => 0))) := (Bx.new W2 _ _).below (ballc (Below.refl _ _) _)
  have E2 : Hid (Bx (((W2.alloc (.cells (arr (fun _ => 0)) 69)).alloc (.cells (arr (fun _ => 0)) 69)).setRow W2.heap.size (arr s)) (W2.heap.size + 1) 69 (arr (fun _ => 0))) := by
    have := Bx.new (W2.alloc (.cells (arr (fun _ => 0)) 69)) 69 (arr (fun _ => 0))
    rw [show (W2.alloc (.cells (arr (fun _ => 0)) 69)).heap.size = W2.heap.size + 1 by simp] at this
    exact this.setRowO (by omega) _
  go_wp2_with (first | refine wpl_store17 info17 rfl _ _ rfl rfl rfl (unhide E1) ?_ | refine wpl_store17 info17 rfl _ _ rfl rfl rfl (unhide E2) ?_)
  go_loopw [14] (fun iv wr => ∃ (k : Nat), iv = .int .i64 (k : Nat) ∧ k ≤ 17 ∧ Hid (Bx wr W2.heap.size 69 (arr (mixN min s t k))) ∧ Hid (Bx wr (W2.heap.size + 1) 69 (arr t)) ∧ Hid (Bx wr w.heap.size 69 (arr (fun _ => 0))) ∧ Hid (Below w.heap.size w wr)) (fun iv _ => 17 - (intOf iv).toNat)
  case atStart =>
    refine ⟨0, rfl, by omega, hide ?_, hide ?_, hide ?_, hide ?_⟩
    · rw [mixN_zero]; exact ((unhide E1).setRow _).setRowO (by omega) _
    · exact (unhide E2).setRow _
    · exact ((((unhide A2).below (ballc (Below.refl _ _) _)).below (ballc (Below.refl _ _) _)).setRowO (by omega) _).setRowO (by omega) _
    · exact below_setRow (below_setRow (ballc (ballc (unhide B2) _) _) _ (by omega) _) _ (by omega) _
  case round =>
    obtain ⟨k, rfl, hk, HS, HT, HA, HK⟩ := hrel
    clear E1 E2 A2 B2
    have hl1 := (unhide HT).lt
    by_cases hlt : k < 17
    · have hlt' : (k : Int) < 17 := by omega
      have c1 := (unhide HS).cell k _ (arr_get _ k hlt)
      have f1 := (unhide HS).frozen k
      have c2 := (unhide HT).cell k _ (arr_get _ k hlt)
      rw [mixN_at] at c1
      have HP := hide (fun W => lesser_in (s k) (t k) W)
      go_wp2
      go_region_with (go_at_call 53; refine (unhide HP _).mono ?_; rintro e W9 ⟨rfl, rfl⟩)
      all_goals
        go_wp2
        go_roundw
        case measure => show 17 - ((k : Int) + 1).toNat < 17 - ((k : Nat) : Int).toNat; omega
        case rel =>
          refine ⟨k + 1, by go_num, by omega, hide ?_, hide ?_, hide ?_, hide ?_⟩
          · have e := (unhide HS).set k (.int .i64 (min (s k) (t k)))
            rw [arr_set _ _ _ hlt, mixN_step] at e
            exact e.below (Below.refl _ _).drew
          · exact ((unhide HT).setO ⟨W2.heap.size, k, none⟩ (by simp) _).below (Below.refl _ _).drew
          · exact ((unhide HA).setO ⟨W2.heap.size, k, none⟩ (by show w.heap.size ≠ W2.heap.size; omega) _).below (Below.refl _ _).drew
          · exact (bset (unhide HK) ⟨W2.heap.size, k, none⟩ (by show w.heap.size ≤ W2.heap.size; omega) _).drew
    · have hlt' : ¬ (k : Int) < 17 := by omega
      obtain rfl : k = 17 := by omega
      have e : arr (mixN min s t 17) = arr (lst s t) := arr_congr fun i hi => by unfold mixN lst; rw [if_pos hi]
      rw [e] at HS
      have HA2 := hide ((unhide HA).setRow (arr (lst s t)))
      have HK2 := hide (below_setRow (unhide HK) w.heap.size (Nat.le_refl _) (arr (lst s t)))
      clear e
      go_wp2_with (first | refine wpl_load17 und17 info17 rfl _ rfl rfl (unhide HS) ?_ | refine wpl_store17 info17 rfl _ _ rfl rfl rfl (unhide HA) ?_)
      refine bodyPost_ret (results_cell_row rfl _ _ w.heap.size _ _ _ _ rfl (unhide HA2) und17 rfl (by rw [arr_size]; exact info17)) rfl ?_
      exact ⟨rfl, unhide HK2⟩

end Go.Proofs.Ytmjhkgpbemjjkaa
