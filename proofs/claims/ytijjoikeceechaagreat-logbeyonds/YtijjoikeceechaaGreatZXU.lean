/-
  Has, Add.
-/
import Derived.Test.YtijjoikeceechaaGreatZXV2

set_option linter.unusedSimpArgs false
set_option linter.unusedVariables false
namespace Go.Proofs.YtijjoikeceechaaGreat
open Go.RowKit Go.Lib

set_option maxRecDepth 100000 in
set_option maxHeartbeats 1000000 in
theorem Has_in (v : Value) (l : List (Int × Int)) (x0 x1 : Int) (w : World) (h : RI w v l) (hl : l.length ≤ 140737488355328) :
    Calls Tryz.prog 55 #[v, .agg #[.int .i64 x0, .int .i64 x1]] w fun e W => e = .returned (.bool (hasV l (x0, x1))) ∧ Below w.heap.size w W := by
  have HG := hide (fun (W : World) (hb : Below w.heap.size w W) => Get_in v l x0 W (h.below hb) hl)
  obtain ⟨R, hR⟩ : ∃ R, hasV l (x0, x1) = R := ⟨_, rfl⟩
  rw [hR]
  unfold hasV at hR
  simp only at hR
  obtain ⟨a, c, rfl⟩ := h.form
  clear h
  generalize getV l x0 = G at *
  have HX := hide (Bx.new w 28 #[.int .i64 x0, .int .i64 x1])
  by_cases h1 : 1 ≤ x1
  · by_cases h2 : x1 ≤ G
    · obtain rfl : true = R := by rw [← hR]; simp [h1, h2]
      clear hR
      go_enter Tryz.func55, Tryz.ntmps55
      go_wp2
      go_region_with (go_at_call 68; refine (unhide HG _ (ballc (Below.refl _ _) _).drew).mono ?_; rintro e W1 ⟨rfl, hb⟩; have d1 := ((unhide HX).below (Below.refl _ _).drew).below hb; have c0 := d1.cell 0 _ rfl; have c1 := d1.cell 1 _ rfl; have b1 := d1.lt; replace hb := hide hb; clear d1)
      all_goals
        go_wp2
        go_ret
        exact ⟨rfl, bnext (ballc (Below.refl _ _) _).drew (unhide hb)⟩
    · obtain rfl : false = R := by rw [← hR]; simp [h2]
      have hd : decide (x1 ≤ G) = false := by simpa using h2
      clear hR
      go_enter Tryz.func55, Tryz.ntmps55
      go_wp2
      go_region_with (go_at_call 68; refine (unhide HG _ (ballc (Below.refl _ _) _).drew).mono ?_; rintro e W1 ⟨rfl, hb⟩; have d1 := ((unhide HX).below (Below.refl _ _).drew).below hb; have c0 := d1.cell 0 _ rfl; have c1 := d1.cell 1 _ rfl; have b1 := d1.lt; replace hb := hide hb; clear d1)
      all_goals
        go_wp2
        go_ret
        refine ⟨?_, bnext (ballc (Below.refl _ _) _).drew (unhide hb)⟩
        first
          | rfl
          | (show Ending.returned (.bool (decide (x1 ≤ G))) = _; rw [hd])
  · obtain rfl : false = R := by rw [← hR]; simp [h1]
    have hd : decide (1 ≤ x1) = false := by simpa using h1
    clear hR
    go_enter Tryz.func55, Tryz.ntmps55
    go_wp2
    go_region
    go_wp2
    go_ret
    exact ⟨rfl, (ballc (Below.refl _ _) _).drew⟩

theorem addV_ways (l : List (Int × Int)) (x0 x1 : Int) : (isT x0 = false ∧ addV l (x0, x1) = ([], 1)) ∨ (isT x0 = true ∧ x1 < 1 ∧ addV l (x0, x1) = ([], 1)) ∨ (isT x0 = true ∧ 1 ≤ x1 ∧ 2147483647 < x1 ∧ addV l (x0, x1) = ([], 17)) ∨ (isT x0 = true ∧ 1 ≤ x1 ∧ x1 ≤ 2147483647 ∧ x1 - 1 ≠ sy l x0.toNat ∧ addV l (x0, x1) = ([], 9)) ∨ (isT x0 = true ∧ 1 ≤ x1 ∧ x1 ≤ 2147483647 ∧ x1 - 1 = sy l x0.toNat ∧ addV l (x0, x1) = (vec (put1 (sy l) x0.toNat x1), 0)) := by
  unfold addV isT
  by_cases h1 : 1 ≤ x0 ∧ x0 ≤ 16
  · by_cases h2 : x1 < 1
    · exact .inr (.inl ⟨by simpa using h1, h2, by rw [if_pos (.inr h2)]⟩)
    · by_cases h3 : 2147483647 < x1
      · exact .inr (.inr (.inl ⟨by simpa using h1, by omega, h3, by rw [if_neg (by simp; omega), if_pos h3]⟩))
      · by_cases h4 : x1 - 1 = sy l x0.toNat
        · exact .inr (.inr (.inr (.inr ⟨by simpa using h1, by omega, by omega, h4, by rw [if_neg (by simp; omega), if_neg h3, if_neg (by simpa using h4)]⟩)))
        · exact .inr (.inr (.inr (.inl ⟨by simpa using h1, by omega, by omega, h4, by rw [if_neg (by simp; omega), if_neg h3, if_pos h4]⟩)))
  · exact .inl ⟨by simpa using h1, by rw [if_pos (.inl h1)]⟩

set_option maxRecDepth 100000 in
set_option maxHeartbeats 1000000 in
theorem Add_in (v : Value) (l : List (Int × Int)) (x0 x1 : Int) (w : World) (h : RI w v l) (hl : l.length ≤ 140737488355328) (hx : x1 ≤ 9223372036854775807) :
    Calls Tryz.prog 45 #[v, .agg #[.int .i64 x0, .int .i64 x1]] w fun e W => ∃ v', e = .returned (.tuple #[v', .int .i64 (addV l (x0, x1)).2]) ∧ OwD W w.heap.size v' (addV l (x0, x1)).1 ∧ Below w.heap.size w W := by
  have HR := hide (read_in v l (w.alloc (.cells #[.int .i64 x0, .int .i64 x1] 28)) (h.below (ballc (Below.refl _ _) _)) hl)
  obtain ⟨a, c, rfl⟩ := h.form
  clear h
  have HX := hide (Bx.new w 28 #[.int .i64 x0, .int .i64 x1])
  have HT := hide (fun W => isSite_in x0 W)
  rcases addV_ways l x0 x1 with ⟨h1, e⟩ | ⟨h1, h2, e⟩ | ⟨h1, h2, h3, e⟩ | ⟨h1, h2, h3, h4, e⟩ | ⟨h1, h2, h3, h4, e⟩
  all_goals
    rw [e]
    rw [h1] at HT
    clear e
    generalize sy l = s at *
    go_enter Tryz.func45, Tryz.ntmps45
    go_wp2_with fail
    refine (unhide HR).mono ?_
    rintro e W1 ⟨rfl, hb1⟩
    have X1 := (unhide HX).below hb1
    replace hb1 := hide (bnext (ballc (Below.refl _ w) (.cells #[.int .i64 x0, .int .i64 x1] 28)) hb1)
    have hw1 := X1.lt
    have E1 := hide (Bx.new W1 98 (arr (fun _ => 0)))
    obtain ⟨X, hX⟩ : ∃ X, (W1.alloc (.cells #[.int .i64 0, .int .i64 0, .int .i64 0, .int .i64 0, .int .i64 0, .int .i64 0, .int .i64 0, .int .i64 0, .int .i64 0, .int .i64 0, .int .i64 0, .int .i64 0, .int .i64 0, .int .i64 0, .int .i64 0, .int .i64 0, .int .i64 0] 98)).setRow W1.heap.size (arr s) = X := ⟨_, rfl⟩
    have E2 : Bx X W1.heap.size 98 (arr s) := by rw [← hX]; exact (unhide E1).setRow (arr s)
    have X2 : Bx X w.heap.size 28 #[.int .i64 x0, .int .i64 x1] := by rw [← hX]; exact (X1.below (ballc (Below.refl _ _) (.cells (arr (fun _ => 0)) 98))).setRowO (g := W1.heap.size) (by omega) (arr s)
    have B2 : Below w.heap.size w X := by rw [← hX]; exact (below_setRow (ballc (unhide hb1) (.cells (arr (fun _ => 0)) 98)) W1.heap.size (by omega) (arr s))
    have c0 := X2.cell 0 _ rfl
    have c1 := X2.cell 1 _ rfl
    have hw2 := X2.lt
    replace hX := hide hX
    replace E2 := hide E2
    replace X2 := hide X2
    replace B2 := hide B2
    clear X1 HR HX
    go_wp2_with (first | (refine wpl_store17 info17 rfl _ _ rfl rfl rfl (unhide E1) ?_; rw [unhide hX]) | (go_at_call 48; refine (unhide HT _).mono ?_; rintro e W1 ⟨rfl, rfl⟩))
  · refine bodyPost_ret (results_tmp2 rfl _ _ _) rfl ?_
    exact ⟨_, rfl, World.ownsRow_nil _ _ _ _, unhide B2⟩
  · refine bodyPost_ret (results_tmp2 rfl _ _ _) rfl ?_
    exact ⟨_, rfl, World.ownsRow_nil _ _ _ _, unhide B2⟩
  · refine bodyPost_ret (results_tmp2 rfl _ _ _) rfl ?_
    exact ⟨_, rfl, World.ownsRow_nil _ _ _ _, unhide B2⟩
  · have kT : 1 ≤ x0 ∧ x0 ≤ 16 := by unfold isT at h1; simpa using h1
    obtain ⟨k, rfl⟩ : ∃ k : Nat, x0 = (k : Int) := ⟨x0.toNat, by omega⟩
    rw [Int.toNat_natCast] at h4
    have hk : k < 17 := by omega
    have hk' : (k : Int) < 17 := by omega
    have cA := (unhide E2).cell k _ (arr_get s k hk)
    have hwx : wrap64 (x1 - 1) = x1 - 1 := IntWalk.wrap64_in _ (by omega)
    have hwy : IntKind.i64.wrap (x1 - 1) = x1 - 1 := IntWalk.i64_in _ (by omega)
    have hq : (x1 - 1 == s k) = false := by simpa using h4
    clear h4 kT h1
    go_region
    go_wp2
    refine bodyPost_ret (results_tmp2 rfl _ _ _) rfl ?_
    exact ⟨_, rfl, World.ownsRow_nil _ _ _ _, (unhide B2).drew⟩
  · have kT : 1 ≤ x0 ∧ x0 ≤ 16 := by unfold isT at h1; simpa using h1
    obtain ⟨k, rfl⟩ : ∃ k : Nat, x0 = (k : Int) := ⟨x0.toNat, by omega⟩
    rw [Int.toNat_natCast] at h4
    have hk : k < 17 := by omega
    have hk' : (k : Int) < 17 := by omega
    have cA := (unhide E2).cell k _ (arr_get s k hk)
    have fA := (unhide E2).frozen k
    have hw3 := (unhide E2).lt
    have hwx : wrap64 (x1 - 1) = x1 - 1 := IntWalk.wrap64_in _ (by omega)
    have hwy : IntKind.i64.wrap (x1 - 1) = x1 - 1 := IntWalk.i64_in _ (by omega)
    have hq : (x1 - 1 == s k) = true := by simpa using h4
    have E3 := (unhide E2).set k (.int .i64 x1)
    rw [arr_set _ _ _ hk] at E3
    have B3 := hide (bset (unhide B2) ⟨W1.heap.size, k, none⟩ (by show w.heap.size ≤ W1.heap.size; omega) (.int .i64 x1)).drew
    replace E3 := hide (E3.below (Below.refl _ _).drew)
    have HV := hide (vector_in (put1 s k x1) (X.setCell ⟨W1.heap.size, k, none⟩ (.int .i64 x1)).drew)
    clear h4 kT h1
    go_region
    go_wp2_with (first | refine wpl_load17 und17 info17 rfl _ rfl rfl (unhide E3) ?_ | (go_at_call 64; refine (unhide HV).mono ?_; rintro e W5 ⟨v', rfl, ho, hb⟩; obtain ⟨av, cv, rfl⟩ := ho.form; replace ho := hide ho; replace hb := hide hb))
    refine bodyPost_ret (results_tmp2 rfl _ _ _) rfl ?_
    exact ⟨_, rfl, (unhide ho).base (unhide B3).size, bnext (unhide B3) (unhide hb)⟩

end Go.Proofs.YtijjoikeceechaaGreat

/-
  The document's own: Says, Of.
-/
set_option linter.unusedSimpArgs false
set_option linter.unusedVariables false
namespace Go.Proofs.YtijjoikeceechaaGreat
open Go.RowKit Go.Lib

theorem und17r : Tryz.prog.underlying 86 = some (.array 17 3) := Tryz.underlying86
theorem info17r : (Tryz.prog.info? 86).map (·.size) = some 17 := by kernel_rfl
theorem index17r (s : Nat → Int) (k : Nat) (hk : k < 17) (w : World) : (Instr.index 86 (.agg (arr s)) (.int .i64 (k : Nat))).run Tryz.prog w = .ok (.int .i64 (s k)) w := by
  have e := arr_get s k hk
  have h1 : (k : Int) < 17 := by omega
  simp [Instr.index, run_underlying und17r, go_sem, arr_size, e, hk, h1]
  rw [Array.getElem?_eq_getElem (by rw [arr_size]; exact hk)] at e
  exact Option.some.inj e
theorem put1_same (s : Nat → Int) (i : Nat) : put1 s i (s i) = s := by
  funext j
  unfold put1
  split
  · rename_i h; rw [h]
  · rfl

theorem sy_ways (t : Nat → Int) (x0 x1 : Int) : (¬ 1 ≤ x0 ∧ syF t (x0, x1) = t) ∨ (1 ≤ x0 ∧ ¬ x0 ≤ 16 ∧ syF t (x0, x1) = t) ∨ (1 ≤ x0 ∧ x0 ≤ 16 ∧ ¬ 1 ≤ x1 ∧ syF t (x0, x1) = t) ∨ (1 ≤ x0 ∧ x0 ≤ 16 ∧ 1 ≤ x1 ∧ ¬ x1 ≤ 2147483647 ∧ syF t (x0, x1) = t) ∨ (1 ≤ x0 ∧ x0 ≤ 16 ∧ 1 ≤ x1 ∧ x1 ≤ 2147483647 ∧ ¬ t x0.toNat < x1 ∧ syF t (x0, x1) = t) ∨ (1 ≤ x0 ∧ x0 ≤ 16 ∧ 1 ≤ x1 ∧ x1 ≤ 2147483647 ∧ t x0.toNat < x1 ∧ syF t (x0, x1) = put1 t x0.toNat x1) := by
  by_cases h1 : 1 ≤ x0
  · by_cases h2 : x0 ≤ 16
    · by_cases h3 : 1 ≤ x1
      · by_cases h4 : x1 ≤ 2147483647
        · have hok : okD (x0, x1) = true := (okD_iff _).2 ⟨⟨h1, h2⟩, h3, h4⟩
          by_cases h5 : t x0.toNat < x1
          · exact .inr (.inr (.inr (.inr (.inr ⟨h1, h2, h3, h4, h5, by rw [syF, if_pos hok]; show put1 t x0.toNat (max (t x0.toNat) x1) = _; rw [show max (t x0.toNat) x1 = x1 by omega]⟩))))
          · exact .inr (.inr (.inr (.inr (.inl ⟨h1, h2, h3, h4, h5, by rw [syF, if_pos hok]; show put1 t x0.toNat (max (t x0.toNat) x1) = _; rw [show max (t x0.toNat) x1 = t x0.toNat by omega, put1_same]⟩))))
        · exact .inr (.inr (.inr (.inl ⟨h1, h2, h3, h4, if_neg (fun h => h4 ((okD_iff _).1 h).2.2)⟩)))
      · exact .inr (.inr (.inl ⟨h1, h2, h3, if_neg (fun h => h3 ((okD_iff _).1 h).2.1)⟩))
    · exact .inr (.inl ⟨h1, h2, if_neg (fun h => h2 ((okD_iff _).1 h).1.2)⟩)
  · exact .inl ⟨h1, if_neg (fun h => h1 ((okD_iff _).1 h).1.1)⟩

set_option maxRecDepth 100000 in
set_option maxHeartbeats 1000000 in
theorem Says_in (v : Value) (l : List (Int × Int)) (w : World) (h : RI w v l) (hl : l.length ≤ 140737488355328) :
    Calls Tryz.prog 50 #[v] w fun e W => e = .returned (.agg (arr (sy l))) ∧ Below w.heap.size w W := by
  obtain ⟨a, c, rfl⟩ := h.form
  have H := hide h
  clear h
  obtain ⟨n, hn⟩ : ∃ n, l.length = n := ⟨_, rfl⟩
  rw [hn] at hl H ⊢
  have Hn := hide hn
  clear hn
  obtain ⟨s, hs⟩ : ∃ s, sy l = s := ⟨_, rfl⟩
  rw [hs]
  have HS := hide hs
  clear hs
  go_enter Tryz.func50, Tryz.ntmps50
  go_wp2
  go_loopw [4] (fun iv wr => ∃ (i : Nat), iv = .int .i64 (i : Nat) ∧ i ≤ n ∧ Hid (Bx wr (w.heap.size + 1) 86 (arr (sy (l.take i)))) ∧ Hid (Bx wr w.heap.size 86 (arr (fun _ => 0))) ∧ Hid (Below w.heap.size w wr)) (fun iv _ => n - (intOf iv).toNat)
  case atStart =>
    refine ⟨0, rfl, by omega, hide ?_, hide ?_, hide (ballc (ballc (Below.refl _ _) _) _)⟩
    · have := Bx.new (w.alloc (.cells (arr (fun _ => 0)) 86)) 86 (arr (fun _ => 0))
      rw [show (w.alloc (.cells (arr (fun _ => 0)) 86)).heap.size = w.heap.size + 1 by simp] at this
      exact this
    · exact (Bx.new w 86 (arr (fun _ => 0))).below (ballc (Below.refl _ _) _)
  case round =>
    obtain ⟨i, rfl, hin, HB, HA, HK⟩ := hrel
    by_cases hlt : i < n
    · have hlt' : (i : Int) < (n : Int) := by omega
      obtain ⟨x, hx⟩ : ∃ x, l[i]? = some x := ⟨_, List.getElem?_eq_getElem (by have := unhide Hn; omega)⟩
      obtain ⟨b, off, rfl, hb, q0, q1⟩ := (RI.below (unhide H) (unhide HK)).at hx
      have HN := hide (show sy (l.take (i + 1)) = syF (sy (l.take i)) x by rw [List.take_add_one, hx]; exact sy_snoc _ _)
      clear hx
      obtain ⟨x0, x1⟩ := x
      have hbd := (unhide HB).lt
      have hbd0 : w.heap.size < wr.heap.size := by omega
      simp only at q0 q1
      generalize sy (l.take i) = t at *
      rcases sy_ways t x0 x1 with ⟨h1, e⟩ | ⟨h1, h2, e⟩ | ⟨h1, h2, h3, e⟩ | ⟨h1, h2, h3, h4, e⟩ | ⟨h1, h2, h3, h4, h5, e⟩ | ⟨h1, h2, h3, h4, h5, e⟩
      all_goals
        have HE := hide e
        clear e
      · have hd : decide (1 ≤ x0) = false := by simpa using h1
        go_wp2
        go_quiet (fail)
        go_wp2
        go_roundw
        case measure => show n - ((i : Int) + 1).toNat < n - ((i : Nat) : Int).toNat; omega
        case rel =>
          refine ⟨i + 1, by go_num, by omega, hide ?_, hide ((unhide HA).below (bdrew (ballc (Below.refl _ wr) _) _)), hide (bdrew (ballc (unhide HK) _) _)⟩
          rw [unhide HN, unhide HE]
          exact (unhide HB).below (bdrew (ballc (Below.refl _ wr) _) _)
      · have hd : decide (x0 ≤ 16) = false := by simpa using h2
        go_wp2
        go_quiet (fail)
        go_wp2
        go_roundw
        case measure => show n - ((i : Int) + 1).toNat < n - ((i : Nat) : Int).toNat; omega
        case rel =>
          refine ⟨i + 1, by go_num, by omega, hide ?_, hide ((unhide HA).below (bdrew (ballc (Below.refl _ wr) _) _)), hide (bdrew (ballc (unhide HK) _) _)⟩
          rw [unhide HN, unhide HE]
          exact (unhide HB).below (bdrew (ballc (Below.refl _ wr) _) _)
      · have hd : decide (1 ≤ x1) = false := by simpa using h3
        go_wp2
        go_quiet (fail)
        go_wp2
        go_roundw
        case measure => show n - ((i : Int) + 1).toNat < n - ((i : Nat) : Int).toNat; omega
        case rel =>
          refine ⟨i + 1, by go_num, by omega, hide ?_, hide ((unhide HA).below (bdrew (ballc (Below.refl _ wr) _) _)), hide (bdrew (ballc (unhide HK) _) _)⟩
          rw [unhide HN, unhide HE]
          exact (unhide HB).below (bdrew (ballc (Below.refl _ wr) _) _)
      · have hd : decide (x1 ≤ 2147483647) = false := by simpa using h4
        go_wp2
        go_quiet (fail)
        go_wp2
        go_roundw
        case measure => show n - ((i : Int) + 1).toNat < n - ((i : Nat) : Int).toNat; omega
        case rel =>
          refine ⟨i + 1, by go_num, by omega, hide ?_, hide ((unhide HA).below (bdrew (ballc (Below.refl _ wr) _) _)), hide (bdrew (ballc (unhide HK) _) _)⟩
          rw [unhide HN, unhide HE]
          exact (unhide HB).below (bdrew (ballc (Below.refl _ wr) _) _)
      · obtain ⟨k, rfl⟩ : ∃ k : Nat, x0 = (k : Int) := ⟨x0.toNat, by omega⟩
        rw [Int.toNat_natCast] at h5
        have hk : k ≤ 16 := by omega
        have hk' : (k : Int) < 17 := by omega
        have cA := (unhide HB).cell k _ (arr_get t k (by omega))
        have hd : decide (t k < x1) = false := by simpa using h5
        go_wp2
        go_quiet (fail)
        go_wp2
        go_roundw
        case measure => show n - ((i : Int) + 1).toNat < n - ((i : Nat) : Int).toNat; omega
        case rel =>
          refine ⟨i + 1, by go_num, by omega, hide ?_, hide ((unhide HA).below (bdrew (ballc (Below.refl _ wr) _) _)), hide (bdrew (ballc (unhide HK) _) _)⟩
          rw [unhide HN, unhide HE]
          exact (unhide HB).below (bdrew (ballc (Below.refl _ wr) _) _)
      · obtain ⟨k, rfl⟩ : ∃ k : Nat, x0 = (k : Int) := ⟨x0.toNat, by omega⟩
        rw [Int.toNat_natCast] at h5 HE
        have hk : k ≤ 16 := by omega
        have hk' : (k : Int) < 17 := by omega
        have cA := (unhide HB).cell k _ (arr_get t k (by omega))
        have fA := (unhide HB).frozen k
        go_wp2
        go_quiet (fail)
        go_wp2
        go_roundw
        case measure => show n - ((i : Int) + 1).toNat < n - ((i : Nat) : Int).toNat; omega
        case rel =>
          refine ⟨i + 1, by go_num, by omega, hide ?_, hide ?_, hide ?_⟩
          · rw [unhide HN, unhide HE, ← arr_set _ _ _ (by omega)]
            exact ((unhide HB).below (bdrew (ballc (Below.refl _ wr) _) _)).set k _
          · exact ((unhide HA).below (bdrew (ballc (Below.refl _ wr) _) _)).setO ⟨w.heap.size + 1, k, none⟩ (by simp) _
          · exact bset (bdrew (ballc (unhide HK) _) _) ⟨w.heap.size + 1, k, none⟩ (by show w.heap.size ≤ w.heap.size + 1; omega) _
    · have hlt' : ¬ (i : Int) < (n : Int) := by omega
      have Hs : Hid (sy (l.take i) = s) := by rw [← unhide HS, List.take_of_length_le (by have := unhide Hn; omega)]; exact rfl
      rw [unhide Hs] at HB
      have HA2 := hide ((unhide HA).setRow (arr s))
      have HK2 := hide (below_setRow (unhide HK) w.heap.size (Nat.le_refl _) (arr s))
      go_wp2_with (first | refine wpl_load17 und17r info17r rfl _ rfl rfl (unhide HB) ?_ | refine wpl_store17 info17r rfl _ _ rfl rfl rfl (unhide HA) ?_)
      refine bodyPost_ret (results_cell_row rfl _ _ w.heap.size _ _ _ _ rfl (unhide HA2) und17r rfl (by rw [arr_size]; exact info17r)) rfl ?_
      exact ⟨rfl, unhide HK2⟩

theorem vecN_one {s : Nat → Int} (h : s 0 = 0) : vecN s 1 = [] := by rw [vecN_neg (by rw [h]; omega)]; rfl

set_option maxRecDepth 100000 in
set_option maxHeartbeats 1000000 in
theorem Of_in (s : Nat → Int) (hz : s 0 = 0) (w : World) :
    Calls Tryz.prog 51 #[.agg (arr s)] w fun e W => ∃ v', e = .returned v' ∧ OwD W w.heap.size v' (vec s) ∧ Below w.heap.size w W := by
  have HB := hide (Bx.new w 86 (arr s))
  go_enter Tryz.func51, Tryz.ntmps51
  go_wp2
  go_loopw [3, 4] (fun vv iv wr => ∃ (k : Nat), iv = .int .i64 (k : Nat) ∧ 1 ≤ k ∧ k ≤ 17 ∧ Hid (OwD wr (w.heap.size + 1) vv (vecN s k)) ∧ Hid (Below w.heap.size w wr) ∧ Hid (Bx wr w.heap.size 86 (arr s))) (fun _ iv _ => 17 - (intOf iv).toNat)
  case atStart => exact ⟨1, rfl, by omega, by omega, hide (by rw [vecN_one hz]; exact World.ownsRow_nil _ _ _ _), hide (ballc (Below.refl _ _) _), HB⟩
  case round =>
    clear HB
    obtain ⟨k, rfl, hk1, hk, HO, HK, HB⟩ := hrel
    obtain ⟨av, cv, hv⟩ := (unhide HO).form
    have hbl := (unhide HB).lt
    by_cases hlt : k < 17
    · have hlt' : (k : Int) ≤ 16 := by omega
      have hlt2 : (k : Int) < 17 := by omega
      have cA := (unhide HB).cell k _ (arr_get s k hlt)
      have hln : (vecN s k).length ≤ 17 := by have := vecN_len s k; omega
      by_cases hp : 0 < s k
      · obtain ⟨v', w', hr, hown, hgr, hat⟩ := append_dot wr 23 (w.heap.size + 1) _ (vecN s k) k (s k) (unhide HO) (by omega) (by omega)
        subst hv
        have Hr := hide hr
        have HO2 : Hid (OwD w' (w.heap.size + 1) v' (vecN s (k + 1))) := by rw [vecN_pos hp]; exact hown
        have HK2 := hide ((ballc (unhide HK) (.cells #[.int .i64 (k : Nat), .int .i64 (s k)] 28)).grown hgr (ballc (unhide HK) _).size (fun j hj => by have := ((unhide HO).lt j hj).1; omega))
        have HB2 : Hid (Bx w' w.heap.size 86 (arr s)) := (hgr.block _ ((unhide HB).below (ballc (Below.refl _ wr) _)).lt (fun e => by have := ((unhide HO).lt _ e.symm).1; omega)).trans ((unhide HB).below (ballc (Below.refl _ wr) _))
        clear hr hown hgr hat
        obtain ⟨av', cv', hv'⟩ := (unhide HO2).form
        subst hv'
        go_wp2_with (at_builtin; refine wpList_append_eq rfl _ _ 23 rfl _ _ _ _ rfl rfl (unhide Hr) ?_)
        go_roundw
        case measure => show 17 - ((k : Int) + 1).toNat < 17 - ((k : Nat) : Int).toNat; omega
        case rel => exact ⟨k + 1, by go_num, by omega, by omega, HO2, HK2, HB2⟩
      · subst hv
        have HO2 : Hid (OwD wr (w.heap.size + 1) (.slice av (vecN s k).length cv) (vecN s (k + 1))) := by rw [vecN_neg hp]; exact unhide HO
        go_wp2
        go_roundw
        case measure => show 17 - ((k : Int) + 1).toNat < 17 - ((k : Nat) : Int).toNat; omega
        case rel => exact ⟨k + 1, by go_num, by omega, by omega, HO2, HK, HB⟩
    · have hlt' : ¬ (k : Int) ≤ 16 := by omega
      obtain rfl : k = 17 := by omega
      subst hv
      go_wp2
      go_ret
      exact ⟨_, rfl, (unhide HO).base (by omega), unhide HK⟩

end Go.Proofs.YtijjoikeceechaaGreat

/-
  The document's own: Check, Get, Has, Sum, Covers.
-/
set_option linter.unusedSimpArgs false
set_option linter.unusedVariables false
namespace Go.Proofs.YtijjoikeceechaaGreat
open Go.RowKit Go.Lib

set_option maxRecDepth 100000 in
set_option maxHeartbeats 2000000 in
theorem refCheck_in (v : Value) (l : List (Int × Int)) (w : World) (h : RI w v l) (hl : l.length ≤ 140737488355328) :
    Calls Tryz.prog 28 #[v] w fun e W => e = .returned (.int .i64 (chk l)) ∧ Below w.heap.size w W := by
  obtain ⟨a, c, rfl⟩ := h.form
  have H := hide h
  clear h
  obtain ⟨n, hn⟩ : ∃ n, l.length = n := ⟨_, rfl⟩
  rw [hn] at hl H ⊢
  have Hn := hide hn
  clear hn
  obtain ⟨E, hE⟩ : ∃ E, chk l = E := ⟨_, rfl⟩
  rw [hE]
  have HE := hide hE
  clear hE
  go_enter Tryz.func28, Tryz.ntmps28
  go_wp2
  go_loopw [3] (fun iv wr => ∃ (ah : Int) (i m : Nat), iv = .int .i64 (i : Nat) ∧ i ≤ n ∧ Hid (chkF ah (l.drop i) = E) ∧ Hid ((i = 0 ∧ ah = 0) ∨ ∃ j y, i = j + 1 ∧ l[j]? = some y ∧ ah = y.1) ∧ wr = w.drewN m) (fun iv _ => n - (intOf iv).toNat)
  case atStart => exact ⟨0, 0, 0, rfl, by omega, hide (unhide HE), hide (.inl ⟨rfl, rfl⟩), rfl⟩
  case round =>
    obtain ⟨ah, i, m, rfl, hin, HC, HP, rfl⟩ := hrel
    by_cases hlt : i < n
    · have hlt' : (i : Int) < (n : Int) := by omega
      obtain ⟨x, hx⟩ : ∃ x, l[i]? = some x := ⟨_, List.getElem?_eq_getElem (by have := unhide Hn; omega)⟩
      have hbelow : Below w.heap.size w (w.drewN m) := bdrew (Below.refl _ _) m
      obtain ⟨b, off, rfl, hb, q0, q1⟩ := (unhide H).at hx
      rw [drop_at hx] at HC
      have HX := hide hx
      clear hx
      obtain ⟨x0, x1⟩ := x
      simp only at q0 q1
      by_cases h1 : x0 < 1
      · have he : Hid (E = 1) := by rw [← unhide HC, chkF, if_pos (by simp only; omega)]; exact rfl
        go_wp2
        go_ret
        exact ⟨by rw [unhide he]; rfl, hbelow⟩
      by_cases h2 : 16 < x0
      · have he : Hid (E = 1) := by rw [← unhide HC, chkF, if_pos (by simp only; omega)]; exact rfl
        go_wp2
        go_ret
        exact ⟨by rw [unhide he]; rfl, hbelow⟩
      by_cases h3 : x1 < 1
      · have he : Hid (E = 6) := by rw [← unhide HC, chkF, if_neg (by simp only; omega), if_pos (by simp only; omega)]; exact rfl
        go_wp2
        go_ret
        exact ⟨by rw [unhide he]; rfl, hbelow⟩
      by_cases h4 : 2147483647 < x1
      · have he : Hid (E = 6) := by rw [← unhide HC, chkF, if_neg (by simp only; omega), if_pos (by simp only; omega)]; exact rfl
        go_wp2
        go_ret
        exact ⟨by rw [unhide he]; rfl, hbelow⟩
      by_cases hi0 : i = 0
      · have ha : ah = 0 := by
          rcases unhide HP with ⟨_, e⟩ | ⟨j, y, e, _⟩
          · exact e
          · omega
        have HC2 : Hid (chkF x0 (l.drop (i + 1)) = E) := by rw [← unhide HC, chkF, if_neg (by simp only; omega), if_neg (by simp only; omega), if_neg (by simp only; omega)]; exact rfl
        have hd : decide (0 < i) = false := by simp; omega
        clear HP ha hi0
        go_wp2
        go_quiet (fail)
        go_wp2
        go_roundw
        case measure => show n - ((i : Int) + 1).toNat < n - ((i : Nat) : Int).toNat; omega
        case rel => exact ⟨x0, i + 1, _, by go_num, by omega, HC2, hide (.inr ⟨i, _, rfl, unhide HX, rfl⟩), rfl⟩
      · obtain ⟨j, rfl⟩ : ∃ j, i = j + 1 := ⟨i - 1, by omega⟩
        obtain ⟨y, hy, ha⟩ : ∃ y, l[j]? = some y ∧ ah = y.1 := by
          rcases unhide HP with ⟨e, _⟩ | ⟨j', y, e, hy, ha⟩
          · omega
          · obtain rfl : j' = j := by omega
            exact ⟨y, hy, ha⟩
        obtain ⟨b', off', eb, _, p0, _⟩ := (unhide H).at hy
        simp only [Option.some.injEq, Addr.mk.injEq, and_true] at eb
        obtain ⟨rfl, rfl⟩ := eb
        obtain ⟨y0, y1⟩ := y
        simp only at p0 ha
        subst ha
        have hj1 : (j : Int) < (n : Int) := by omega
        have hj2 : (0 : Int) < (j : Int) + 1 := by omega
        have hw1 : wrap64 ((j : Int) + 1 - 1) = (j : Int) := by rw [show (j : Int) + 1 - 1 = (j : Int) by omega]; exact IntWalk.wrap64_in _ (by omega)
        have hw2 : IntKind.i64.wrap ((j : Int) + 1 - 1) = (j : Int) := by rw [show (j : Int) + 1 - 1 = (j : Int) by omega]; exact IntWalk.i64_in _ (by omega)
        push_cast at *
        clear hy HP
        by_cases ho : x0 ≤ ah
        · have he : Hid (E = 9) := by rw [← unhide HC, chkF, if_neg (by simp only; omega), if_neg (by simp only; omega), if_pos ho]; exact rfl
          go_wp2
          go_quiet (fail)
          go_wp2
          go_ret
          exact ⟨by rw [unhide he]; rfl, bdrew hbelow _⟩
        · have HC2 : Hid (chkF x0 (l.drop (j + 1 + 1)) = E) := by rw [← unhide HC, chkF, if_neg (by simp only; omega), if_neg (by simp only; omega), if_neg ho]; exact rfl
          have ho' : decide (x0 ≤ ah) = false := by simpa using ho
          go_wp2
          go_quiet (fail)
          go_wp2
          go_roundw
          case measure => show n - ((j : Int) + 1 + 1).toNat < n - ((j : Int) + 1).toNat; omega
          case rel => exact ⟨x0, j + 1 + 1, _, by go_num, by omega, HC2, hide (.inr ⟨j + 1, _, rfl, unhide HX, rfl⟩), rfl⟩
    · have hlt' : ¬ (i : Int) < (n : Int) := by omega
      have he : Hid (E = 0) := by
        rw [← unhide HC, List.drop_eq_nil_of_le (by have := unhide Hn; omega), chkF]; exact rfl
      go_wp2
      go_ret
      exact ⟨by rw [unhide he]; rfl, bdrew (Below.refl _ _) _⟩

set_option maxRecDepth 100000 in
theorem refGet_in (v : Value) (l : List (Int × Int)) (site : Int) (w : World) (h : RI w v l) (hl : l.length ≤ 140737488355328) :
    Calls Tryz.prog 54 #[v, .int .i64 site] w fun e W => e = .returned (.int .i64 (getV l site)) ∧ Below w.heap.size w W := by
  have HR := hide (Says_in v l w h hl)
  obtain ⟨a, c, rfl⟩ := h.form
  clear h
  unfold getV
  by_cases h1 : site < 1
  · rw [if_neg (by omega)]
    go_enter Tryz.func54, Tryz.ntmps54
    go_wp2
    go_ret
    exact ⟨rfl, Below.refl _ _⟩
  by_cases h2 : 16 < site
  · rw [if_neg (by omega)]
    go_enter Tryz.func54, Tryz.ntmps54
    go_wp2
    go_ret
    exact ⟨rfl, Below.refl _ _⟩
  · rw [if_pos (by omega)]
    generalize sy l = s at *
    obtain ⟨k, rfl⟩ : ∃ k : Nat, site = (k : Int) := ⟨site.toNat, by omega⟩
    have hi := fun W => index17r s k (by omega) W
    rw [Int.toNat_natCast]
    go_enter Tryz.func54, Tryz.ntmps54
    go_wp2_with (go_at_call 50; refine (unhide HR).mono ?_; rintro e W1 ⟨rfl, hb⟩; replace hb := hide hb)
    go_ret
    exact ⟨rfl, unhide hb⟩

set_option maxRecDepth 100000 in
set_option maxHeartbeats 1000000 in
theorem refHas_in (v : Value) (l : List (Int × Int)) (x0 x1 : Int) (w : World) (h : RI w v l) (hl : l.length ≤ 140737488355328) :
    Calls Tryz.prog 38 #[v, .agg #[.int .i64 x0, .int .i64 x1]] w fun e W => e = .returned (.bool (hasV l (x0, x1))) ∧ Below w.heap.size w W := by
  have HG := hide (fun (W : World) (hb : Below w.heap.size w W) => refGet_in v l x0 W (h.below hb) hl)
  obtain ⟨R, hR⟩ : ∃ R, hasV l (x0, x1) = R := ⟨_, rfl⟩
  rw [hR]
  unfold hasV at hR
  simp only at hR
  obtain ⟨a, c, rfl⟩ := h.form
  clear h
  generalize getV l x0 = G at *
  have HX := hide (Bx.new w 28 #[.int .i64 x0, .int .i64 x1])
  by_cases h1 : 1 ≤ x1
  · by_cases h2 : x1 ≤ G
    · obtain rfl : true = R := by rw [← hR]; simp [h1, h2]
      clear hR
      go_enter Tryz.func38, Tryz.ntmps38
      go_wp2
      go_region_with (go_at_call 54; refine (unhide HG _ (ballc (Below.refl _ _) _).drew).mono ?_; rintro e W1 ⟨rfl, hb⟩; have d1 := ((unhide HX).below (Below.refl _ _).drew).below hb; have c0 := d1.cell 0 _ rfl; have c1 := d1.cell 1 _ rfl; have b1 := d1.lt; replace hb := hide hb; clear d1)
      all_goals
        go_wp2
        go_ret
        exact ⟨rfl, bnext (ballc (Below.refl _ _) _).drew (unhide hb)⟩
    · obtain rfl : false = R := by rw [← hR]; simp [h2]
      have hd : decide (x1 ≤ G) = false := by simpa using h2
      clear hR
      go_enter Tryz.func38, Tryz.ntmps38
      go_wp2
      go_region_with (go_at_call 54; refine (unhide HG _ (ballc (Below.refl _ _) _).drew).mono ?_; rintro e W1 ⟨rfl, hb⟩; have d1 := ((unhide HX).below (Below.refl _ _).drew).below hb; have c0 := d1.cell 0 _ rfl; have c1 := d1.cell 1 _ rfl; have b1 := d1.lt; replace hb := hide hb; clear d1)
      all_goals
        go_wp2
        go_ret
        refine ⟨?_, bnext (ballc (Below.refl _ _) _).drew (unhide hb)⟩
        first
          | rfl
          | (show Ending.returned (.bool (decide (x1 ≤ G))) = _; rw [hd])
  · obtain rfl : false = R := by rw [← hR]; simp [h1]
    have hd : decide (1 ≤ x1) = false := by simpa using h1
    clear hR
    go_enter Tryz.func38, Tryz.ntmps38
    go_wp2
    go_region
    go_wp2
    go_ret
    exact ⟨rfl, (ballc (Below.refl _ _) _).drew⟩

end Go.Proofs.YtijjoikeceechaaGreat
