/-
  The document's own: Says, Of.
-/
import Derived.Test.YtkkolefionbbcaaGreatZXV

set_option linter.unusedSimpArgs false
set_option linter.unusedVariables false
namespace Go.Proofs.YtkkolefionbbcaaGreat
open Go.RowKit Go.Lib

theorem und17r : Tryz.prog.underlying 89 = some (.array 17 3) := Tryz.underlying89
theorem info17r : (Tryz.prog.info? 89).map (·.size) = some 17 := by kernel_rfl
theorem index17r (s : Nat → Int) (k : Nat) (hk : k < 17) (w : World) : (Instr.index 89 (.agg (arr s)) (.int .i64 (k : Nat))).run Tryz.prog w = .ok (.int .i64 (s k)) w := by
  have e := arr_get s k hk
  have h1 : (k : Int) < 17 := by omega
  simp [Instr.index, run_underlying und17r, go_sem, arr_size, e, hk, h1]
  rw [Array.getElem?_eq_getElem (by rw [arr_size]; exact hk)] at e
  exact Option.some.inj e
theorem put1_same (s : Nat → Int) (i : Nat) : put1 s i (s i) = s := by
  funext j
  unfold put1
  split
  · rename_i h; rw [h]
  · rfl

theorem sy_ways (t : Nat → Int) (x0 x1 : Int) : (¬ 1 ≤ x0 ∧ syF t (x0, x1) = t) ∨ (1 ≤ x0 ∧ ¬ x0 ≤ 16 ∧ syF t (x0, x1) = t) ∨ (1 ≤ x0 ∧ x0 ≤ 16 ∧ ¬ 1 ≤ x1 ∧ syF t (x0, x1) = t) ∨ (1 ≤ x0 ∧ x0 ≤ 16 ∧ 1 ≤ x1 ∧ ¬ x1 ≤ 2147483647 ∧ syF t (x0, x1) = t) ∨ (1 ≤ x0 ∧ x0 ≤ 16 ∧ 1 ≤ x1 ∧ x1 ≤ 2147483647 ∧ ¬ t x0.toNat < x1 ∧ syF t (x0, x1) = t) ∨ (1 ≤ x0 ∧ x0 ≤ 16 ∧ 1 ≤ x1 ∧ x1 ≤ 2147483647 ∧ t x0.toNat < x1 ∧ syF t (x0, x1) = put1 t x0.toNat x1) := by
  by_cases h1 : 1 ≤ x0
  · by_cases h2 : x0 ≤ 16
    · by_cases h3 : 1 ≤ x1
      · by_cases h4 : x1 ≤ 2147483647
        · have hok : okD (x0, x1) = true := (okD_iff _).2 ⟨⟨h1, h2⟩, h3, h4⟩
          by_cases h5 : t x0.toNat < x1
          · exact .inr (.inr (.inr (.inr (.inr ⟨h1, h2, h3, h4, h5, by rw [syF, if_pos hok]; show put1 t x0.toNat (max (t x0.toNat) x1) = _; rw [show max (t x0.toNat) x1 = x1 by omega]⟩))))
          · exact .inr (.inr (.inr (.inr (.inl ⟨h1, h2, h3, h4, h5, by rw [syF, if_pos hok]; show put1 t x0.toNat (max (t x0.toNat) x1) = _; rw [show max (t x0.toNat) x1 = t x0.toNat by omega, put1_same]⟩))))
        · exact .inr (.inr (.inr (.inl ⟨h1, h2, h3, h4, if_neg (fun h => h4 ((okD_iff _).1 h).2.2)⟩)))
      · exact .inr (.inr (.inl ⟨h1, h2, h3, if_neg (fun h => h3 ((okD_iff _).1 h).2.1)⟩))
    · exact .inr (.inl ⟨h1, h2, if_neg (fun h => h2 ((okD_iff _).1 h).1.2)⟩)
  · exact .inl ⟨h1, if_neg (fun h => h1 ((okD_iff _).1 h).1.1)⟩

set_option maxRecDepth 100000 in
set_option maxHeartbeats 1000000 in
theorem Says_in (v : Value) (l : List (Int × Int)) (w : World) (h : RI w v l) (hl : l.length ≤ 140737488355328) :
    Calls Tryz.prog 49 #[v] w fun e W => e = .returned (.agg (arr (sy l))) ∧ Below w.heap.size w W := by
  obtain ⟨a, c, rfl⟩ := h.form
  have H := hide h
  clear h
  obtain ⟨n, hn⟩ : ∃ n, l.length = n := ⟨_, rfl⟩
  rw [hn] at hl H ⊢
  have Hn := hide hn
  clear hn
  obtain ⟨s, hs⟩ : ∃ s, sy l = s := ⟨_, rfl⟩
  rw [hs]
  have HS := hide hs
  clear hs
  go_enter Tryz.func49, Tryz.ntmps49
  go_wp2
  go_loopw [4] (fun iv wr => ∃ (i : Nat), iv = .int .i64 (i : Nat) ∧ i ≤ n ∧ Hid (Bx wr (w.heap.size + 1) 89 (arr (sy (l.take i)))) ∧ Hid (Bx wr w.heap.size 89 (arr (fun _ => 0))) ∧ Hid (Below w.heap.size w wr)) (fun iv _ => n - (intOf iv).toNat)
  case atStart =>
    refine ⟨0, rfl, by omega, hide ?_, hide ?_, hide (ballc (ballc (Below.refl _ _) _) _)⟩
    · have := Bx.new (w.alloc (.cells (arr (fun _ => 0)) 89)) 89 (arr (fun _ => 0))
      rw [show (w.alloc (.cells (arr (fun _ => 0)) 89)).heap.size = w.heap.size + 1 by simp] at this
      exact this
    · exact (Bx.new w 89 (arr (fun _ => 0))).below (ballc (Below.refl _ _) _)
  case round =>
    obtain ⟨i, rfl, hin, HB, HA, HK⟩ := hrel
    by_cases hlt : i < n
    · have hlt' : (i : Int) < (n : Int) := by omega
      obtain ⟨x, hx⟩ : ∃ x, l[i]? = some x := ⟨_, List.getElem?_eq_getElem (by have := unhide Hn; omega)⟩
      obtain ⟨b, off, rfl, hb, q0, q1⟩ := (RI.below (unhide H) (unhide HK)).at hx
      have HN := hide (show sy (l.take (i + 1)) = syF (sy (l.take i)) x by rw [List.take_add_one, hx]; exact sy_snoc _ _)
      clear hx
      obtain ⟨x0, x1⟩ := x
      have hbd := (unhide HB).lt
      have hbd0 : w.heap.size < wr.heap.size := by omega
      simp only at q0 q1
      generalize sy (l.take i) = t at *
      rcases sy_ways t x0 x1 with ⟨h1, e⟩ | ⟨h1, h2, e⟩ | ⟨h1, h2, h3, e⟩ | ⟨h1, h2, h3, h4, e⟩ | ⟨h1, h2, h3, h4, h5, e⟩ | ⟨h1, h2, h3, h4, h5, e⟩
      all_goals
        have HE := hide e
        clear e
      · have hd : decide (1 ≤ x0) = false := by simpa using h1
        go_wp2
        go_quiet (fail)
        go_wp2
        go_roundw
        case measure => show n - ((i : Int) + 1).toNat < n - ((i : Nat) : Int).toNat; omega
        case rel =>
          refine ⟨i + 1, by go_num, by omega, hide ?_, hide ((unhide HA).below (bdrew (ballc (Below.refl _ wr) _) _)), hide (bdrew (ballc (unhide HK) _) _)⟩
          rw [unhide HN, unhide HE]
          exact (unhide HB).below (bdrew (ballc (Below.refl _ wr) _) _)
      · have hd : decide (x0 ≤ 16) = false := by simpa using h2
        go_wp2
        go_quiet (fail)
        go_wp2
        go_roundw
        case measure => show n - ((i : Int) + 1).toNat < n - ((i : Nat) : Int).toNat; omega
        case rel =>
          refine ⟨i + 1, by go_num, by omega, hide ?_, hide ((unhide HA).below (bdrew (ballc (Below.refl _ wr) _) _)), hide (bdrew (ballc (unhide HK) _) _)⟩
          rw [unhide HN, unhide HE]
          exact (unhide HB).below (bdrew (ballc (Below.refl _ wr) _) _)
      · have hd : decide (1 ≤ x1) = false := by simpa using h3
        go_wp2
        go_quiet (fail)
        go_wp2
        go_roundw
        case measure => show n - ((i : Int) + 1).toNat < n - ((i : Nat) : Int).toNat; omega
        case rel =>
          refine ⟨i + 1, by go_num, by omega, hide ?_, hide ((unhide HA).below (bdrew (ballc (Below.refl _ wr) _) _)), hide (bdrew (ballc (unhide HK) _) _)⟩
          rw [unhide HN, unhide HE]
          exact (unhide HB).below (bdrew (ballc (Below.refl _ wr) _) _)
      · have hd : decide (x1 ≤ 2147483647) = false := by simpa using h4
        go_wp2
        go_quiet (fail)
        go_wp2
        go_roundw
        case measure => show n - ((i : Int) + 1).toNat < n - ((i : Nat) : Int).toNat; omega
        case rel =>
          refine ⟨i + 1, by go_num, by omega, hide ?_, hide ((unhide HA).below (bdrew (ballc (Below.refl _ wr) _) _)), hide (bdrew (ballc (unhide HK) _) _)⟩
          rw [unhide HN, unhide HE]
          exact (unhide HB).below (bdrew (ballc (Below.refl _ wr) _) _)
      · obtain ⟨k, rfl⟩ : ∃ k : Nat, x0 = (k : Int) := ⟨x0.toNat, by omega⟩
        rw [Int.toNat_natCast] at h5
        have hk : k ≤ 16 := by omega
        have hk' : (k : Int) < 17 := by omega
        have cA := (unhide HB).cell k _ (arr_get t k (by omega))
        have hd : decide (t k < x1) = false := by simpa using h5
        go_wp2
        go_quiet (fail)
        go_wp2
        go_roundw
        case measure => show n - ((i : Int) + 1).toNat < n - ((i : Nat) : Int).toNat; omega
        case rel =>
          refine ⟨i + 1, by go_num, by omega, hide ?_, hide ((unhide HA).below (bdrew (ballc (Below.refl _ wr) _) _)), hide (bdrew (ballc (unhide HK) _) _)⟩
          rw [unhide HN, unhide HE]
          exact (unhide HB).below (bdrew (ballc (Below.refl _ wr) _) _)
      · obtain ⟨k, rfl⟩ : ∃ k : Nat, x0 = (k : Int) := ⟨x0.toNat, by omega⟩
        rw [Int.toNat_natCast] at h5 HE
        have hk : k ≤ 16 := by omega
        have hk' : (k : Int) < 17 := by omega
        have cA := (unhide HB).cell k _ (arr_get t k (by omega))
        have fA := (unhide HB).frozen k
        go_wp2
        go_quiet (fail)
        go_wp2
        go_roundw
        case measure => show n - ((i : Int) + 1).toNat < n - ((i : Nat) : Int).toNat; omega
        case rel =>
          refine ⟨i + 1, by go_num, by omega, hide ?_, hide ?_, hide ?_⟩
          · rw [unhide HN, unhide HE, ← arr_set _ _ _ (by omega)]
            exact ((unhide HB).below (bdrew (ballc (Below.refl _ wr) _) _)).set k _
          · exact ((unhide HA).below (bdrew (ballc (Below.refl _ wr) _) _)).setO ⟨w.heap.size + 1, k, none⟩ (by simp) _
          · exact bset (bdrew (ballc (unhide HK) _) _) ⟨w.heap.size + 1, k, none⟩ (by show w.heap.size ≤ w.heap.size + 1; omega) _
    · have hlt' : ¬ (i : Int) < (n : Int) := by omega
      have Hs : Hid (sy (l.take i) = s) := by rw [← unhide HS, List.take_of_length_le (by have := unhide Hn; omega)]; exact rfl
      rw [unhide Hs] at HB
      have HA2 := hide ((unhide HA).setRow (arr s))
      have HK2 := hide (below_setRow (unhide HK) w.heap.size (Nat.le_refl _) (arr s))
      go_wp2_with (first | refine wpl_load17 und17r info17r rfl _ rfl rfl (unhide HB) ?_ | refine wpl_store17 info17r rfl _ _ rfl rfl rfl (unhide HA) ?_)
      refine bodyPost_ret (results_cell_row rfl _ _ w.heap.size _ _ _ _ rfl (unhide HA2) und17r rfl (by rw [arr_size]; exact info17r)) rfl ?_
      exact ⟨rfl, unhide HK2⟩

theorem vecN_one {s : Nat → Int} (h : s 0 = 0) : vecN s 1 = [] := by rw [vecN_neg (by rw [h]; omega)]; rfl

set_option maxRecDepth 100000 in
set_option maxHeartbeats 1000000 in
theorem Of_in (s : Nat → Int) (hz : s 0 = 0) (w : World) :
    Calls Tryz.prog 50 #[.agg (arr s)] w fun e W => ∃ v', e = .returned v' ∧ OwD W w.heap.size v' (vec s) ∧ Below w.heap.size w W := by
  have HB := hide (Bx.new w 89 (arr s))
  go_enter Tryz.func50, Tryz.ntmps50
  go_wp2
  go_loopw [3, 4] (fun vv iv wr => ∃ (k : Nat), iv = .int .i64 (k : Nat) ∧ 1 ≤ k ∧ k ≤ 17 ∧ Hid (OwD wr (w.heap.size + 1) vv (vecN s k)) ∧ Hid (Below w.heap.size w wr) ∧ Hid (Bx wr w.heap.size 89 (arr s))) (fun _ iv _ => 17 - (intOf iv).toNat)
  case atStart => exact ⟨1, rfl, by omega, by omega, hide (by rw [vecN_one hz]; exact World.ownsRow_nil _ _ _ _), hide (ballc (Below.refl _ _) _), HB⟩
  case round =>
    clear HB
    obtain ⟨k, rfl, hk1, hk, HO, HK, HB⟩ := hrel
    obtain ⟨av, cv, hv⟩ := (unhide HO).form
    have hbl := (unhide HB).lt
    by_cases hlt : k < 17
    · have hlt' : (k : Int) ≤ 16 := by omega
      have hlt2 : (k : Int) < 17 := by omega
      have cA := (unhide HB).cell k _ (arr_get s k hlt)
      have hln : (vecN s k).length ≤ 17 := by have := vecN_len s k; omega
      by_cases hp : 0 < s k
      · obtain ⟨v', w', hr, hown, hgr, hat⟩ := append_dot wr 23 (w.heap.size + 1) _ (vecN s k) k (s k) (unhide HO) (by omega) (by omega)
        subst hv
        have Hr := hide hr
        have HO2 : Hid (OwD w' (w.heap.size + 1) v' (vecN s (k + 1))) := by rw [vecN_pos hp]; exact hown
        have HK2 := hide ((ballc (unhide HK) (.cells #[.int .i64 (k : Nat), .int .i64 (s k)] 28)).grown hgr (ballc (unhide HK) _).size (fun j hj => by have := ((unhide HO).lt j hj).1; omega))
        have HB2 : Hid (Bx w' w.heap.size 89 (arr s)) := (hgr.block _ ((unhide HB).below (ballc (Below.refl _ wr) _)).lt (fun e => by have := ((unhide HO).lt _ e.symm).1; omega)).trans ((unhide HB).below (ballc (Below.refl _ wr) _))
        clear hr hown hgr hat
        obtain ⟨av', cv', hv'⟩ := (unhide HO2).form
        subst hv'
        go_wp2_with (at_builtin; refine wpList_append_eq rfl _ _ 23 rfl _ _ _ _ rfl rfl (unhide Hr) ?_)
        go_roundw
        case measure => show 17 - ((k : Int) + 1).toNat < 17 - ((k : Nat) : Int).toNat; omega
        case rel => exact ⟨k + 1, by go_num, by omega, by omega, HO2, HK2, HB2⟩
      · subst hv
        have HO2 : Hid (OwD wr (w.heap.size + 1) (.slice av (vecN s k).length cv) (vecN s (k + 1))) := by rw [vecN_neg hp]; exact unhide HO
        go_wp2
        go_roundw
        case measure => show 17 - ((k : Int) + 1).toNat < 17 - ((k : Nat) : Int).toNat; omega
        case rel => exact ⟨k + 1, by go_num, by omega, by omega, HO2, HK, HB⟩
    · have hlt' : ¬ (k : Int) ≤ 16 := by omega
      obtain rfl : k = 17 := by omega
      subst hv
      go_wp2
      go_ret
      exact ⟨_, rfl, (unhide HO).base (by omega), unhide HK⟩

end Go.Proofs.YtkkolefionbbcaaGreat

/-
  The document's own: Check, Get, Has, Sum, Covers.
-/
set_option linter.unusedSimpArgs false
set_option linter.unusedVariables false
namespace Go.Proofs.YtkkolefionbbcaaGreat
open Go.RowKit Go.Lib

set_option maxRecDepth 100000 in
set_option maxHeartbeats 2000000 in
theorem refCheck_in (v : Value) (l : List (Int × Int)) (w : World) (h : RI w v l) (hl : l.length ≤ 140737488355328) :
    Calls Tryz.prog 34 #[v] w fun e W => e = .returned (.int .i64 (chk l)) ∧ Below w.heap.size w W := by
  obtain ⟨a, c, rfl⟩ := h.form
  have H := hide h
  clear h
  obtain ⟨n, hn⟩ : ∃ n, l.length = n := ⟨_, rfl⟩
  rw [hn] at hl H ⊢
  have Hn := hide hn
  clear hn
  obtain ⟨E, hE⟩ : ∃ E, chk l = E := ⟨_, rfl⟩
  rw [hE]
  have HE := hide hE
  clear hE
  go_enter Tryz.func34, Tryz.ntmps34
  go_wp2
  go_loopw [3] (fun iv wr => ∃ (ah : Int) (i m : Nat), iv = .int .i64 (i : Nat) ∧ i ≤ n ∧ Hid (chkF ah (l.drop i) = E) ∧ Hid ((i = 0 ∧ ah = 0) ∨ ∃ j y, i = j + 1 ∧ l[j]? = some y ∧ ah = y.1) ∧ wr = w.drewN m) (fun iv _ => n - (intOf iv).toNat)
  case atStart => exact ⟨0, 0, 0, rfl, by omega, hide (unhide HE), hide (.inl ⟨rfl, rfl⟩), rfl⟩
  case round =>
    obtain ⟨ah, i, m, rfl, hin, HC, HP, rfl⟩ := hrel
    by_cases hlt : i < n
    · have hlt' : (i : Int) < (n : Int) := by omega
      obtain ⟨x, hx⟩ : ∃ x, l[i]? = some x := ⟨_, List.getElem?_eq_getElem (by have := unhide Hn; omega)⟩
      have hbelow : Below w.heap.size w (w.drewN m) := bdrew (Below.refl _ _) m
      obtain ⟨b, off, rfl, hb, q0, q1⟩ := (unhide H).at hx
      rw [drop_at hx] at HC
      have HX := hide hx
      clear hx
      obtain ⟨x0, x1⟩ := x
      simp only at q0 q1
      by_cases h1 : x0 < 1
      · have he : Hid (E = 1) := by rw [← unhide HC, chkF, if_pos (by simp only; omega)]; exact rfl
        go_wp2
        go_ret
        exact ⟨by rw [unhide he]; rfl, hbelow⟩
      by_cases h2 : 16 < x0
      · have he : Hid (E = 1) := by rw [← unhide HC, chkF, if_pos (by simp only; omega)]; exact rfl
        go_wp2
        go_ret
        exact ⟨by rw [unhide he]; rfl, hbelow⟩
      by_cases h3 : x1 < 1
      · have he : Hid (E = 6) := by rw [← unhide HC, chkF, if_neg (by simp only; omega), if_pos (by simp only; omega)]; exact rfl
        go_wp2
        go_ret
        exact ⟨by rw [unhide he]; rfl, hbelow⟩
      by_cases h4 : 2147483647 < x1
      · have he : Hid (E = 6) := by rw [← unhide HC, chkF, if_neg (by simp only; omega), if_pos (by simp only; omega)]; exact rfl
        go_wp2
        go_ret
        exact ⟨by rw [unhide he]; rfl, hbelow⟩
      by_cases hi0 : i = 0
      · have ha : ah = 0 := by
          rcases unhide HP with ⟨_, e⟩ | ⟨j, y, e, _⟩
          · exact e
          · omega
        have HC2 : Hid (chkF x0 (l.drop (i + 1)) = E) := by rw [← unhide HC, chkF, if_neg (by simp only; omega), if_neg (by simp only; omega), if_neg (by simp only; omega)]; exact rfl
        have hd : decide (0 < i) = false := by simp; omega
        clear HP ha hi0
        go_wp2
        go_quiet (fail)
        go_wp2
        go_roundw
        case measure => show n - ((i : Int) + 1).toNat < n - ((i : Nat) : Int).toNat; omega
        case rel => exact ⟨x0, i + 1, _, by go_num, by omega, HC2, hide (.inr ⟨i, _, rfl, unhide HX, rfl⟩), rfl⟩
      · obtain ⟨j, rfl⟩ : ∃ j, i = j + 1 := ⟨i - 1, by omega⟩
        obtain ⟨y, hy, ha⟩ : ∃ y, l[j]? = some y ∧ ah = y.1 := by
          rcases unhide HP with ⟨e, _⟩ | ⟨j', y, e, hy, ha⟩
          · omega
          · obtain rfl : j' = j := by omega
            exact ⟨y, hy, ha⟩
        obtain ⟨b', off', eb, _, p0, _⟩ := (unhide H).at hy
        simp only [Option.some.injEq, Addr.mk.injEq, and_true] at eb
        obtain ⟨rfl, rfl⟩ := eb
        obtain ⟨y0, y1⟩ := y
        simp only at p0 ha
        subst ha
        have hj1 : (j : Int) < (n : Int) := by omega
        have hj2 : (0 : Int) < (j : Int) + 1 := by omega
        have hw1 : wrap64 ((j : Int) + 1 - 1) = (j : Int) := by rw [show (j : Int) + 1 - 1 = (j : Int) by omega]; exact IntWalk.wrap64_in _ (by omega)
        have hw2 : IntKind.i64.wrap ((j : Int) + 1 - 1) = (j : Int) := by rw [show (j : Int) + 1 - 1 = (j : Int) by omega]; exact IntWalk.i64_in _ (by omega)
        push_cast at *
        clear hy HP
        by_cases ho : x0 ≤ ah
        · have he : Hid (E = 9) := by rw [← unhide HC, chkF, if_neg (by simp only; omega), if_neg (by simp only; omega), if_pos ho]; exact rfl
          go_wp2
          go_quiet (fail)
          go_wp2
          go_ret
          exact ⟨by rw [unhide he]; rfl, bdrew hbelow _⟩
        · have HC2 : Hid (chkF x0 (l.drop (j + 1 + 1)) = E) := by rw [← unhide HC, chkF, if_neg (by simp only; omega), if_neg (by simp only; omega), if_neg ho]; exact rfl
          have ho' : decide (x0 ≤ ah) = false := by simpa using ho
          go_wp2
          go_quiet (fail)
          go_wp2
          go_roundw
          case measure => show n - ((j : Int) + 1 + 1).toNat < n - ((j : Int) + 1).toNat; omega
          case rel => exact ⟨x0, j + 1 + 1, _, by go_num, by omega, HC2, hide (.inr ⟨j + 1, _, rfl, unhide HX, rfl⟩), rfl⟩
    · have hlt' : ¬ (i : Int) < (n : Int) := by omega
      have he : Hid (E = 0) := by
        rw [← unhide HC, List.drop_eq_nil_of_le (by have := unhide Hn; omega), chkF]; exact rfl
      go_wp2
      go_ret
      exact ⟨by rw [unhide he]; rfl, bdrew (Below.refl _ _) _⟩

set_option maxRecDepth 100000 in
theorem refGet_in (v : Value) (l : List (Int × Int)) (site : Int) (w : World) (h : RI w v l) (hl : l.length ≤ 140737488355328) :
    Calls Tryz.prog 23 #[v, .int .i64 site] w fun e W => e = .returned (.int .i64 (getV l site)) ∧ Below w.heap.size w W := by
  have HR := hide (Says_in v l w h hl)
  obtain ⟨a, c, rfl⟩ := h.form
  clear h
  unfold getV
  by_cases h1 : site < 1
  · rw [if_neg (by omega)]
    go_enter Tryz.func23, Tryz.ntmps23
    go_wp2
    go_ret
    exact ⟨rfl, Below.refl _ _⟩
  by_cases h2 : 16 < site
  · rw [if_neg (by omega)]
    go_enter Tryz.func23, Tryz.ntmps23
    go_wp2
    go_ret
    exact ⟨rfl, Below.refl _ _⟩
  · rw [if_pos (by omega)]
    generalize sy l = s at *
    obtain ⟨k, rfl⟩ : ∃ k : Nat, site = (k : Int) := ⟨site.toNat, by omega⟩
    have hi := fun W => index17r s k (by omega) W
    rw [Int.toNat_natCast]
    go_enter Tryz.func23, Tryz.ntmps23
    go_wp2_with (go_at_call 49; refine (unhide HR).mono ?_; rintro e W1 ⟨rfl, hb⟩; replace hb := hide hb)
    go_ret
    exact ⟨rfl, unhide hb⟩

set_option maxRecDepth 100000 in
set_option maxHeartbeats 1000000 in
theorem refHas_in (v : Value) (l : List (Int × Int)) (x0 x1 : Int) (w : World) (h : RI w v l) (hl : l.length ≤ 140737488355328) :
    Calls Tryz.prog 25 #[v, .agg #[.int .i64 x0, .int .i64 x1]] w fun e W => e = .returned (.bool (hasV l (x0, x1))) ∧ Below w.heap.size w W := by
  have HG := hide (fun (W : World) (hb : Below w.heap.size w W) => refGet_in v l x0 W (h.below hb) hl)
  obtain ⟨R, hR⟩ : ∃ R, hasV l (x0, x1) = R := ⟨_, rfl⟩
  rw [hR]
  unfold hasV at hR
  simp only at hR
  obtain ⟨a, c, rfl⟩ := h.form
  clear h
  generalize getV l x0 = G at *
  have HX := hide (Bx.new w 28 #[.int .i64 x0, .int .i64 x1])
  by_cases h1 : 1 ≤ x1
  · by_cases h2 : x1 ≤ G
    · obtain rfl : true = R := by rw [← hR]; simp [h1, h2]
      clear hR
      go_enter Tryz.func25, Tryz.ntmps25
      go_wp2
      go_region_with (go_at_call 23; refine (unhide HG _ (ballc (Below.refl _ _) _).drew).mono ?_; rintro e W1 ⟨rfl, hb⟩; have d1 := ((unhide HX).below (Below.refl _ _).drew).below hb; have c0 := d1.cell 0 _ rfl; have c1 := d1.cell 1 _ rfl; have b1 := d1.lt; replace hb := hide hb; clear d1)
      all_goals
        go_wp2
        go_ret
        exact ⟨rfl, bnext (ballc (Below.refl _ _) _).drew (unhide hb)⟩
    · obtain rfl : false = R := by rw [← hR]; simp [h2]
      have hd : decide (x1 ≤ G) = false := by simpa using h2
      clear hR
      go_enter Tryz.func25, Tryz.ntmps25
      go_wp2
      go_region_with (go_at_call 23; refine (unhide HG _ (ballc (Below.refl _ _) _).drew).mono ?_; rintro e W1 ⟨rfl, hb⟩; have d1 := ((unhide HX).below (Below.refl _ _).drew).below hb; have c0 := d1.cell 0 _ rfl; have c1 := d1.cell 1 _ rfl; have b1 := d1.lt; replace hb := hide hb; clear d1)
      all_goals
        go_wp2
        go_ret
        refine ⟨?_, bnext (ballc (Below.refl _ _) _).drew (unhide hb)⟩
        first
          | rfl
          | (show Ending.returned (.bool (decide (x1 ≤ G))) = _; rw [hd])
  · obtain rfl : false = R := by rw [← hR]; simp [h1]
    have hd : decide (1 ≤ x1) = false := by simpa using h1
    clear hR
    go_enter Tryz.func25, Tryz.ntmps25
    go_wp2
    go_region
    go_wp2
    go_ret
    exact ⟨rfl, (ballc (Below.refl _ _) _).drew⟩

set_option maxRecDepth 100000 in
theorem refSum_in (v : Value) (l : List (Int × Int)) (w : World) (h : RI w v l) (hl : l.length ≤ 140737488355328) :
    Calls Tryz.prog 28 #[v] w fun e W => e = .returned (.int .i64 (sum (sy l))) ∧ Below w.heap.size w W := by
  have HR := hide (Says_in v l w h hl)
  have HG := hide (sy_good l)
  obtain ⟨a, c, rfl⟩ := h.form
  generalize sy l = s at *
  clear h
  go_enter Tryz.func28, Tryz.ntmps28
  go_wp2_with fail
  refine (unhide HR).mono ?_
  rintro e W1 ⟨rfl, hb⟩
  have E1 := hide (Bx.new W1 89 (arr (fun _ => 0)))
  obtain ⟨X, hX⟩ : ∃ X, (W1.alloc (.cells #[.int .i64 0, .int .i64 0, .int .i64 0, .int .i64 0, .int .i64 0, .int .i64 0, .int .i64 0, .int .i64 0, .int .i64 0, .int .i64 0, .int .i64 0, .int .i64 0, .int .i64 0, .int .i64 0, .int .i64 0, .int .i64 0, .int .i64 0] 89)).setRow W1.heap.size (arr s) = X := ⟨_, rfl⟩
  have E2 : Hid (Bx X W1.heap.size 89 (arr s)) := by rw [← hX]; exact (unhide E1).setRow (arr s)
  have B2 : Hid (Below w.heap.size w X) := by rw [← hX]; exact below_setRow (ballc hb (.cells (arr (fun _ => 0)) 89)) W1.heap.size hb.size (arr s)
  replace hX := hide hX
  go_wp2_with (refine wpl_store17 info17r rfl _ _ rfl rfl rfl (unhide E1) ?_; rw [unhide hX])
  go_loopw [4, 5] (fun sv iv wr => ∃ (k : Nat), sv = .int .i64 (sumN s k) ∧ iv = .int .i64 (k : Nat) ∧ k ≤ 17 ∧ wr = X) (fun _ iv _ => 17 - (intOf iv).toNat)
  case atStart => exact ⟨0, rfl, rfl, by omega, rfl⟩
  case round =>
    obtain ⟨k, rfl, rfl, hk, rfl⟩ := hrel
    by_cases hlt : k < 17
    · have hlt' : (k : Int) < 17 := by omega
      have cA := (unhide E2).cell k _ (arr_get s k hlt)
      have h1 := sumN_in (unhide HG) k
      have h2 := (unhide HG).lo k
      have h3 := (unhide HG).hi k
      have h4 : wrap64 (sumN s k + s k) = sumN s k + s k := IntWalk.wrap64_in _ (by omega)
      have h5 : IntKind.i64.wrap (sumN s k + s k) = sumN s k + s k := IntWalk.i64_in _ (by omega)
      have h6 := hide (show sumN s (k + 1) = sumN s k + s k from rfl)
      generalize sumN s k = P at *
      generalize s k = Y at *
      go_wp2
      go_roundw
      case measure => show 17 - ((k : Int) + 1).toNat < 17 - ((k : Nat) : Int).toNat; omega
      case rel => exact ⟨k + 1, by rw [unhide h6], by go_num, by omega, by trivial⟩
    · have hlt' : ¬ (k : Int) < 17 := by omega
      obtain rfl : k = 17 := by omega
      go_wp2
      go_ret
      exact ⟨rfl, unhide B2⟩

end Go.Proofs.YtkkolefionbbcaaGreat

/-
  The document's own: Covers, Merge, Least, Add.
-/
set_option linter.unusedSimpArgs false
set_option linter.unusedVariables false
namespace Go.Proofs.YtkkolefionbbcaaGreat
open Go.RowKit Go.Lib

theorem cov_some {s t : Nat → Int} {k : Nat} (hk : k < 17) (h : s k < t k) : cov s t = false := by
  rw [Bool.eq_false_iff]
  intro e
  unfold cov at e
  rw [List.all_eq_true] at e
  have := e k (List.mem_range.2 hk)
  simp at this
  omega
theorem cov_all {s t : Nat → Int} (h : ∀ i, i < 17 → t i ≤ s i) : cov s t = true := by
  unfold cov
  rw [List.all_eq_true]
  intro i hi
  have := h i (List.mem_range.1 hi)
  simp
  omega

set_option maxRecDepth 100000 in
set_option maxHeartbeats 2000000 in
theorem refCovers_in (v u : Value) (l m : List (Int × Int)) (w : World) (h : RI w v l) (k : RI w u m) (hl : l.length ≤ 140737488355328) (hm : m.length ≤ 140737488355328) :
    Calls Tryz.prog 22 #[v, u] w fun e W => e = .returned (.bool (cov (sy l) (sy m))) ∧ Below w.heap.size w W := by
  obtain ⟨a, c, rfl⟩ := h.form
  obtain ⟨a2, c2, rfl⟩ := k.form
  have R1 := hide (Says_in _ l w h hl)
  have K := hide k
  generalize sy l = s at *
  obtain ⟨t, ht⟩ : ∃ t, sy m = t := ⟨_, rfl⟩
  rw [ht]
  replace ht := hide ht
  obtain ⟨R, hR⟩ : ∃ R, cov s t = R := ⟨_, rfl⟩
  rw [hR]
  replace hR := hide hR
  clear h k
  go_enter Tryz.func22, Tryz.ntmps22
  go_wp2_with fail
  refine (unhide R1).mono ?_
  rintro e W1 ⟨rfl, hb⟩
  have E1 := hide (Bx.new W1 89 (arr (fun _ => 0)))
  obtain ⟨X, hX⟩ : ∃ X, (W1.alloc (.cells #[.int .i64 0, .int .i64 0, .int .i64 0, .int .i64 0, .int .i64 0, .int .i64 0, .int .i64 0, .int .i64 0, .int .i64 0, .int .i64 0, .int .i64 0, .int .i64 0, .int .i64 0, .int .i64 0, .int .i64 0, .int .i64 0, .int .i64 0] 89)).setRow W1.heap.size (arr s) = X := ⟨_, rfl⟩
  have X1 : Hid (Bx X W1.heap.size 89 (arr s)) := by rw [← hX]; exact (unhide E1).setRow (arr s)
  have B1 : Hid (Below w.heap.size w X) := by rw [← hX]; exact below_setRow (ballc hb (.cells (arr (fun _ => 0)) 89)) W1.heap.size hb.size (arr s)
  have R2 := hide (Says_in _ m X ((unhide K).below (unhide B1)) hm)
  rw [unhide ht] at R2
  have hwq : w.heap.size ≤ W1.heap.size := hb.size
  replace hX := hide hX
  clear hb R1
  go_wp2_with (refine wpl_store17 info17r rfl _ _ rfl rfl rfl (unhide E1) ?_; rw [unhide hX])
  refine (unhide R2).mono ?_
  rintro e W2 ⟨rfl, hb2⟩
  clear E1 hX
  generalize W1.heap.size = q at *
  have F1 := hide (Bx.new W2 89 (arr (fun _ => 0)))
  obtain ⟨Y, hY⟩ : ∃ Y, (W2.alloc (.cells #[.int .i64 0, .int .i64 0, .int .i64 0, .int .i64 0, .int .i64 0, .int .i64 0, .int .i64 0, .int .i64 0, .int .i64 0, .int .i64 0, .int .i64 0, .int .i64 0, .int .i64 0, .int .i64 0, .int .i64 0, .int .i64 0, .int .i64 0] 89)).setRow W2.heap.size (arr t) = Y := ⟨_, rfl⟩
  have hqx := (unhide X1).lt
  have hq2 : q < W2.heap.size := by have := hb2.size; omega
  have Y1 : Hid (Bx Y q 89 (arr s)) := by rw [← hY]; exact (((unhide X1).below hb2).below (ballc (Below.refl _ _) _)).setRowO (by omega) _
  have Y2 : Hid (Bx Y W2.heap.size 89 (arr t)) := by rw [← hY]; exact (unhide F1).setRow (arr t)
  have B2 : Hid (Below w.heap.size w Y) := by rw [← hY]; exact below_setRow (ballc (bnext (unhide B1) hb2) (.cells (arr (fun _ => 0)) 89)) W2.heap.size (by omega) (arr t)
  replace hY := hide hY
  clear hb2 R2 X1 B1 hqx
  go_wp2_with (refine wpl_store17 info17r rfl _ _ rfl rfl rfl (unhide F1) ?_; rw [unhide hY])
  clear F1 hY
  generalize W2.heap.size = r at *
  go_loopw [7] (fun iv wr => ∃ (k n : Nat), iv = .int .i64 (k : Nat) ∧ k ≤ 17 ∧ Hid (∀ i, i < k → t i ≤ s i) ∧ wr = Y.drewN n) (fun iv _ => 17 - (intOf iv).toNat)
  case atStart => exact ⟨0, 0, rfl, by omega, hide (fun i hi => by omega), rfl⟩
  case round =>
    obtain ⟨k, n, rfl, hk, HS, rfl⟩ := hrel
    by_cases hlt : k < 17
    · have hlt' : (k : Int) < 17 := by omega
      have cA := (unhide Y1).cell k _ (arr_get s k hlt)
      have cB := (unhide Y2).cell k _ (arr_get t k hlt)
      by_cases hc : s k < t k
      · have he := hide (show R = false by rw [← unhide hR]; exact cov_some hlt hc)
        go_wp2
        go_quiet (fail)
        go_wp2
        go_ret
        exact ⟨by rw [unhide he]; rfl, bdrew (bdrew (unhide B2) _) _⟩
      · have HS2 : Hid (∀ i, i < k + 1 → t i ≤ s i) := fun i hi => by
          by_cases e : i = k
          · rw [e]; omega
          · exact unhide HS i (by omega)
        go_wp2
        go_quiet (fail)
        go_wp2
        go_roundw
        case measure => show 17 - ((k : Int) + 1).toNat < 17 - ((k : Nat) : Int).toNat; omega
        case rel => exact ⟨k + 1, _, by go_num, by omega, HS2, rfl⟩
    · have hlt' : ¬ (k : Int) < 17 := by omega
      have he := hide (show R = true by rw [← unhide hR]; exact cov_all fun i hi => unhide HS i (by omega))
      go_wp2
      go_ret
      exact ⟨by rw [unhide he]; rfl, bdrew (unhide B2) _⟩

set_option maxRecDepth 100000 in
set_option maxHeartbeats 2000000 in
theorem refMerge_in (v u : Value) (l m : List (Int × Int)) (w : World) (h : RI w v l) (k : RI w u m) (hl : l.length ≤ 140737488355328) (hm : m.length ≤ 140737488355328) :
    Calls Tryz.prog 21 #[v, u] w fun e W => ∃ v', e = .returned v' ∧ OwD W w.heap.size v' (vec (mrg (sy l) (sy m))) ∧ Below w.heap.size w W := by
  have HZ := hide (((sy_good l).mrg (sy_good m)).zero)
  obtain ⟨a, c, rfl⟩ := h.form
  obtain ⟨a2, c2, rfl⟩ := k.form
  have R1 := hide (Says_in _ l w h hl)
  have K := hide k
  generalize sy l = s at *
  obtain ⟨t, ht⟩ : ∃ t, sy m = t := ⟨_, rfl⟩
  rw [ht] at HZ ⊢
  replace ht := hide ht
  clear h k
  go_enter Tryz.func21, Tryz.ntmps21
  go_wp2_with fail
  refine (unhide R1).mono ?_
  rintro e W1 ⟨rfl, hb⟩
  have E1 := hide (Bx.new W1 89 (arr (fun _ => 0)))
  obtain ⟨X, hX⟩ : ∃ X, (W1.alloc (.cells #[.int .i64 0, .int .i64 0, .int .i64 0, .int .i64 0, .int .i64 0, .int .i64 0, .int .i64 0, .int .i64 0, .int .i64 0, .int .i64 0, .int .i64 0, .int .i64 0, .int .i64 0, .int .i64 0, .int .i64 0, .int .i64 0, .int .i64 0] 89)).setRow W1.heap.size (arr s) = X := ⟨_, rfl⟩
  have X1 : Hid (Bx X W1.heap.size 89 (arr s)) := by rw [← hX]; exact (unhide E1).setRow (arr s)
  have B1 : Hid (Below w.heap.size w X) := by rw [← hX]; exact below_setRow (ballc hb (.cells (arr (fun _ => 0)) 89)) W1.heap.size hb.size (arr s)
  have R2 := hide (Says_in _ m X ((unhide K).below (unhide B1)) hm)
  rw [unhide ht] at R2
  have hwq : w.heap.size ≤ W1.heap.size := hb.size
  replace hX := hide hX
  clear hb R1
  go_wp2_with (refine wpl_store17 info17r rfl _ _ rfl rfl rfl (unhide E1) ?_; rw [unhide hX])
  refine (unhide R2).mono ?_
  rintro e W2 ⟨rfl, hb2⟩
  clear E1 hX
  generalize W1.heap.size = q at *
  have F1 := hide (Bx.new W2 89 (arr (fun _ => 0)))
  obtain ⟨Y, hY⟩ : ∃ Y, (W2.alloc (.cells #[.int .i64 0, .int .i64 0, .int .i64 0, .int .i64 0, .int .i64 0, .int .i64 0, .int .i64 0, .int .i64 0, .int .i64 0, .int .i64 0, .int .i64 0, .int .i64 0, .int .i64 0, .int .i64 0, .int .i64 0, .int .i64 0, .int .i64 0] 89)).setRow W2.heap.size (arr t) = Y := ⟨_, rfl⟩
  have hqx := (unhide X1).lt
  have hq2 : q < W2.heap.size := by have := hb2.size; omega
  have Y1 : Hid (Bx Y q 89 (arr s)) := by rw [← hY]; exact (((unhide X1).below hb2).below (ballc (Below.refl _ _) _)).setRowO (by omega) _
  have Y2 : Hid (Bx Y W2.heap.size 89 (arr t)) := by rw [← hY]; exact (unhide F1).setRow (arr t)
  have B2 : Hid (Below w.heap.size w Y) := by rw [← hY]; exact below_setRow (ballc (bnext (unhide B1) hb2) (.cells (arr (fun _ => 0)) 89)) W2.heap.size (by omega) (arr t)
  replace hY := hide hY
  clear hb2 R2 X1 B1 hqx
  go_wp2_with (refine wpl_store17 info17r rfl _ _ rfl rfl rfl (unhide F1) ?_; rw [unhide hY])
  clear F1 hY
  generalize W2.heap.size = r at *
  go_loopw [7] (fun iv wr => ∃ (k : Nat), iv = .int .i64 (k : Nat) ∧ k ≤ 17 ∧ Hid (Bx wr q 89 (arr (mixN max s t k))) ∧ Hid (Bx wr r 89 (arr t)) ∧ Hid (Below w.heap.size w wr)) (fun iv _ => 17 - (intOf iv).toNat)
  case atStart => exact ⟨0, rfl, by omega, hide (by rw [mixN_zero]; exact unhide Y1), Y2, B2⟩
  case round =>
    clear Y1 Y2 B2
    obtain ⟨k, rfl, hk, Y1, Y2, B2⟩ := hrel
    by_cases hlt : k < 17
    · have hlt' : (k : Int) < 17 := by omega
      have cA := (unhide Y1).cell k _ (arr_get _ k hlt)
      have fA := (unhide Y1).frozen k
      have cB := (unhide Y2).cell k _ (arr_get t k hlt)
      rw [mixN_at] at cA
      have hrl := (unhide Y2).lt
      have fin : ∀ x : Int, x = max (s k) (t k) → Hid (Bx (wr.setCell ⟨q, k, none⟩ (.int .i64 x)).drew q 89 (arr (mixN max s t (k + 1)))) ∧ Hid (Bx (wr.setCell ⟨q, k, none⟩ (.int .i64 x)).drew r 89 (arr t)) ∧ Hid (Below w.heap.size w (wr.setCell ⟨q, k, none⟩ (.int .i64 x)).drew) := by
        rintro x rfl
        refine ⟨hide ?_, hide ?_, hide ?_⟩
        · have e := (unhide Y1).set k (.int .i64 (max (s k) (t k)))
          rw [arr_set _ _ _ hlt, mixN_step] at e
          exact e.below (Below.refl _ _).drew
        · exact ((unhide Y2).setO ⟨q, k, none⟩ (by show r ≠ q; omega) _).below (Below.refl _ _).drew
        · exact (bset (unhide B2) ⟨q, k, none⟩ hwq _).drew
      replace fin := hide fin
      by_cases hc : s k < t k
      · go_wp2
        go_region
        go_wp2
        go_roundw
        case measure => show 17 - ((k : Int) + 1).toNat < 17 - ((k : Nat) : Int).toNat; omega
        case rel => exact ⟨k + 1, by go_num, by omega, unhide fin _ (by omega)⟩
      · have hc2 : t k ≤ s k := by omega
        by_cases hc3 : t k < s k
        · go_wp2
          go_region
          go_wp2
          go_roundw
          case measure => show 17 - ((k : Int) + 1).toNat < 17 - ((k : Nat) : Int).toNat; omega
          case rel => exact ⟨k + 1, by go_num, by omega, unhide fin _ (by omega)⟩
        · have hc4 : s k ≤ t k := by omega
          go_wp2
          go_region
          go_wp2
          go_roundw
          case measure => show 17 - ((k : Int) + 1).toNat < 17 - ((k : Nat) : Int).toNat; omega
          case rel => exact ⟨k + 1, by go_num, by omega, unhide fin _ (by omega)⟩
    · have hlt' : ¬ (k : Int) < 17 := by omega
      obtain rfl : k = 17 := by omega
      have e : arr (mixN max s t 17) = arr (mrg s t) := arr_congr fun i hi => by unfold mixN mrg; rw [if_pos hi]
      rw [e] at Y1
      have HV := hide (Of_in (mrg s t) (unhide HZ) wr)
      clear e
      go_wp2_with (first | refine wpl_load17 und17r info17r rfl _ rfl rfl (unhide Y1) ?_ | (go_at_call 50; refine (unhide HV).mono ?_; rintro e W5 ⟨v', rfl, ho, hb⟩; obtain ⟨av, cv, rfl⟩ := ho.form; replace ho := hide ho; replace hb := hide hb))
      go_ret
      exact ⟨_, rfl, (unhide ho).base (unhide B2).size, bnext (unhide B2) (unhide hb)⟩

end Go.Proofs.YtkkolefionbbcaaGreat

/-
  The document's own Add of a vector.
-/
set_option linter.unusedSimpArgs false
set_option linter.unusedVariables false
namespace Go.Proofs.YtkkolefionbbcaaGreat
open Go.RowKit Go.Lib

set_option maxRecDepth 100000 in
set_option maxHeartbeats 2000000 in
theorem refAdd_in (v : Value) (l : List (Int × Int)) (x0 x1 : Int) (w : World) (h : RI w v l) (hl : l.length ≤ 140737488355328) (hx : x1 ≤ 9223372036854775807) :
    Calls Tryz.prog 24 #[v, .agg #[.int .i64 x0, .int .i64 x1]] w fun e W => ∃ v', e = .returned (.tuple #[v', .int .i64 (addV l (x0, x1)).2]) ∧ OwD W w.heap.size v' (addV l (x0, x1)).1 ∧ Below w.heap.size w W := by
  have HG := hide (fun (W : World) (hb : Below w.heap.size w W) => refGet_in v l x0 W (h.below hb) hl)
  have HR := hide (fun (W : World) (hb : Below w.heap.size w W) => Says_in v l W (h.below hb) hl)
  have HGd := hide (sy_good l)
  obtain ⟨a, c, rfl⟩ := h.form
  clear h
  have HX := hide (Bx.new w 28 #[.int .i64 x0, .int .i64 x1])
  have BW := hide (ballc (Below.refl w.heap.size w) (.cells #[.int .i64 x0, .int .i64 x1] 28))
  rcases addV_ways l x0 x1 with ⟨h1, e⟩ | ⟨h1, h2, e⟩ | ⟨h1, h2, h3, e⟩ | ⟨h1, h2, h3, h4, e⟩ | ⟨h1, h2, h3, h4, e⟩
  all_goals
    rw [e]
    clear e
  · have hnot : ¬ (1 ≤ x0 ∧ x0 ≤ 16) := by unfold isT at h1; simpa using h1
    clear h1
    by_cases hlo : x0 < 1
    · clear hnot
      go_enter Tryz.func24, Tryz.ntmps24
      go_wp2
      refine bodyPost_ret (results_tmp2 rfl _ _ _) rfl ?_
      exact ⟨_, rfl, World.ownsRow_nil _ _ _ _, unhide BW⟩
    · have hhi : 16 < x0 := by omega
      clear hnot
      go_enter Tryz.func24, Tryz.ntmps24
      go_wp2
      refine bodyPost_ret (results_tmp2 rfl _ _ _) rfl ?_
      exact ⟨_, rfl, World.ownsRow_nil _ _ _ _, unhide BW⟩
  all_goals
    obtain ⟨r1, r2⟩ : 1 ≤ x0 ∧ x0 ≤ 16 := by unfold isT at h1; simpa using h1
    have r1' : ¬ x0 < 1 := by omega
    have r2' : ¬ 16 < x0 := by omega
    clear h1
  · go_enter Tryz.func24, Tryz.ntmps24
    go_wp2
    refine bodyPost_ret (results_tmp2 rfl _ _ _) rfl ?_
    exact ⟨_, rfl, World.ownsRow_nil _ _ _ _, unhide BW⟩
  · go_enter Tryz.func24, Tryz.ntmps24
    go_wp2
    refine bodyPost_ret (results_tmp2 rfl _ _ _) rfl ?_
    exact ⟨_, rfl, World.ownsRow_nil _ _ _ _, unhide BW⟩
  all_goals
    have hgv : getV l x0 = sy l x0.toNat := by unfold getV; rw [if_pos ⟨r1, r2⟩]
    obtain ⟨k, rfl⟩ : ∃ k : Nat, x0 = (k : Int) := ⟨x0.toNat, by omega⟩
    rw [Int.toNat_natCast] at *
    rw [hgv] at HG
    have hNi := (unhide HGd).hi k
    have hNl := (unhide HGd).lo k
    generalize sy l = s at *
    have hw1 : wrap64 (s k + 1) = s k + 1 := IntWalk.wrap64_in _ (by omega)
    have hw2 : IntKind.i64.wrap (s k + 1) = s k + 1 := IntWalk.i64_in _ (by omega)
  · have hq : (x1 == s k + 1) = false := by rw [beq_eq_false_iff_ne]; omega
    clear h4 hgv
    go_enter Tryz.func24, Tryz.ntmps24
    go_wp2
    go_region_with (go_at_call 23; refine (unhide HG _ (unhide BW).drew).mono ?_; rintro e W1 ⟨rfl, hb⟩; have d1 := ((unhide HX).below (Below.refl _ _).drew).below hb; have c0 := d1.cell 0 _ rfl; have c1 := d1.cell 1 _ rfl; have b1 := d1.lt; replace hb := hide hb; clear d1)
    all_goals
      go_wp2
      refine bodyPost_ret (results_tmp2 rfl _ _ _) rfl ?_
      exact ⟨_, rfl, World.ownsRow_nil _ _ _ _, bnext (unhide BW).drew (unhide hb)⟩
  · have hq : (x1 == s k + 1) = true := by rw [beq_iff_eq]; omega
    have hk : k < 17 := by omega
    have hk' : (k : Int) < 17 := by omega
    have HV := hide (fun W => Of_in (put1 s k x1) (by rw [put1_other _ _ _ _ (by omega)]; exact (unhide HGd).zero) W)
    clear h4 hgv
    go_enter Tryz.func24, Tryz.ntmps24
    go_wp2
    go_region_with (go_at_call 23; refine (unhide HG _ (unhide BW).drew).mono ?_; rintro e W1 ⟨rfl, hb⟩; have d1 := ((unhide HX).below (Below.refl _ _).drew).below hb; have c0 := d1.cell 0 _ rfl; have c1 := d1.cell 1 _ rfl; have b1 := d1.lt; replace d1 := hide d1; replace hb := hide (show Below w.heap.size w W1 from bnext (unhide BW).drew hb))
    all_goals
      go_wp2_with fail
      refine (unhide HR _ (unhide hb)).mono ?_
      rintro e W3 ⟨rfl, hb3⟩
      have X1 := (unhide d1).below hb3
      have B3 := hide (bnext (unhide hb) hb3)
      have hw3 := X1.lt
      have E1 := hide (Bx.new W3 89 (arr (fun _ => 0)))
      obtain ⟨X, hX⟩ : ∃ X, (W3.alloc (.cells #[.int .i64 0, .int .i64 0, .int .i64 0, .int .i64 0, .int .i64 0, .int .i64 0, .int .i64 0, .int .i64 0, .int .i64 0, .int .i64 0, .int .i64 0, .int .i64 0, .int .i64 0, .int .i64 0, .int .i64 0, .int .i64 0, .int .i64 0] 89)).setRow W3.heap.size (arr s) = X := ⟨_, rfl⟩
      have E2 : Bx X W3.heap.size 89 (arr s) := by rw [← hX]; exact (unhide E1).setRow (arr s)
      have X2 : Bx X w.heap.size 28 #[.int .i64 (k : Int), .int .i64 x1] := by rw [← hX]; exact (X1.below (ballc (Below.refl _ _) (.cells (arr (fun _ => 0)) 89))).setRowO (g := W3.heap.size) (by omega) (arr s)
      have B4 : Below w.heap.size w X := by rw [← hX]; exact (below_setRow (ballc (unhide B3) (.cells (arr (fun _ => 0)) 89)) W3.heap.size (by omega) (arr s))
      clear c0 c1 b1
      have c0 := X2.cell 0 _ rfl
      have c1 := X2.cell 1 _ rfl
      have hw4 := X2.lt
      have cA := E2.cell k _ (arr_get s k hk)
      have fA := E2.frozen k
      have hw5 := E2.lt
      have E3 := E2.set k (.int .i64 x1)
      rw [arr_set _ _ _ hk] at E3
      have B5 := hide (bset B4 ⟨W3.heap.size, k, none⟩ (by show w.heap.size ≤ W3.heap.size; omega) (.int .i64 x1))
      replace hX := hide hX
      replace E3 := hide E3
      clear X1 X2 E2 hb3 B3 B4 d1 hb
      go_wp2_with (first | (refine wpl_store17 info17r rfl _ _ rfl rfl rfl (unhide E1) ?_; rw [unhide hX]) | refine wpl_load17 und17r info17r rfl _ rfl rfl (unhide E3) ?_ | (go_at_call 50; refine (unhide HV _).mono ?_; rintro e W5 ⟨v', rfl, ho, hb⟩; obtain ⟨av, cv, rfl⟩ := ho.form; replace ho := hide ho; replace hb := hide hb))
      refine bodyPost_ret (results_tmp2 rfl _ _ _) rfl ?_
      exact ⟨_, rfl, (unhide ho).base (unhide B5).size, bnext (unhide B5) (unhide hb)⟩

end Go.Proofs.YtkkolefionbbcaaGreat
