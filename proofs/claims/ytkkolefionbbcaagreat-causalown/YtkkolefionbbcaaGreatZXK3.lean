/-
  Identifiers: the document's own.
-/
import Derived.Test.YtkkolefionbbcaaGreatZXKR
import Derived.Shelf.SlSortCmp.QuietGrown

set_option linter.unusedSimpArgs false
set_option linter.unusedVariables false
namespace Go.Proofs.YtkkolefionbbcaaGreat
open Go.RowKit Go.Lib Go.Sort

set_option maxRecDepth 100000 in
theorem refIsID_in (t s : Int) (w : World) :
    Calls Tryz.prog 106 #[.agg #[.int .i64 t, .int .i64 s]] w fun e W => e = .returned (.bool (isI (t, s))) ∧ W = w.alloc (.cells #[.int .i64 t, .int .i64 s] 39) := by
  obtain ⟨R, hR⟩ : ∃ R, isI (t, s) = R := ⟨_, rfl⟩
  rw [hR]
  rcases isI_ways t s hR with ⟨h1, rfl⟩ | ⟨h1, h2, rfl⟩ | ⟨h1, h2, h3, rfl⟩ | ⟨h1, h2, h3, h4, rfl⟩ | ⟨h1, h2, h3, h4, rfl⟩
  all_goals
    clear hR
    go_enter Tryz.func106, Tryz.ntmps106
    go_wp2
    go_ret
    exact ⟨rfl, rfl⟩

set_option maxRecDepth 100000 in
theorem refAfter_in (t s n : Int) (w : World) :
    Calls Tryz.prog 105 #[.agg #[.int .i64 t, .int .i64 s], .int .i64 n] w fun e W => e = .returned (.agg #[.int .i64 (aft (t, s) n).1, .int .i64 (aft (t, s) n).2]) ∧ Below w.heap.size w W := by
  have HC := hide (fun W => refIsID_in t s W)
  rcases aft_ways t s n with ⟨h1, e⟩ | ⟨h1, h2, e⟩ | ⟨h1, h2, h3, e⟩ | ⟨h1, h2, h3, e⟩
  all_goals
    rw [e]; clear e
    rw [h1] at HC
    go_enter Tryz.func105, Tryz.ntmps105
    go_wp2_with (go_at_call 106; refine (unhide HC _).mono ?_; rintro e W1 ⟨rfl, rfl⟩)
  · refine bodyPost_ret (results_cell_row rfl _ _ (w.heap.size + 1) _ _ _ _ rfl (bx2 _ _ _ _ _) Tryz.underlying39 rfl info_ID) rfl ?_
    exact ⟨rfl, ballc (ballc (ballc (Below.refl _ _) _) _) _⟩
  · refine bodyPost_ret (results_cell_row rfl _ _ (w.heap.size + 1) _ _ _ _ rfl (bx2 _ _ _ _ _) Tryz.underlying39 rfl info_ID) rfl ?_
    exact ⟨rfl, ballc (ballc (ballc (Below.refl _ _) _) _) _⟩
  all_goals
    obtain ⟨k1, k2, k3, k4⟩ := isI_range h1
    have e1 : wrap64 (2147483647 - t) = 2147483647 - t := IntWalk.wrap64_in _ (by omega)
    have e2 : (n ≤ 2147483647 - t → wrap64 (t + n) = t + n) := fun h => IntWalk.wrap64_in _ (by omega)
    rename_i hx
    rw [e1] at hx
  · refine bodyPost_ret (results_cell_row rfl _ _ (w.heap.size + 1) _ _ _ _ rfl (bx2 _ _ _ _ _) Tryz.underlying39 rfl info_ID) rfl ?_
    exact ⟨rfl, ballc (ballc (ballc (Below.refl _ _) _) _) _⟩
  · exfalso; omega
  · exfalso; omega
  · refine bodyPost_ret (results_cell_row rfl _ _ (w.heap.size + 1) _ _ _ _ rfl (bx2 _ _ _ _ _) Tryz.underlying39 rfl info_ID) rfl ?_
    rw [e2 (by omega)]
    exact ⟨rfl, ballc (ballc (ballc (Below.refl _ _) _) _) _⟩

set_option maxRecDepth 100000 in
theorem refCompare_in (a b c d : Int) (w : World) :
    Calls Tryz.prog 107 #[.agg #[.int .i64 a, .int .i64 b], .agg #[.int .i64 c, .int .i64 d]] w fun e W => e = .returned (.int .i64 (cmpI (a, b) (c, d))) ∧ ∃ q os, W = grow (w.drewN q) os := by
  have he := fun W => eqI a b c d W
  rcases cmpI_ways a b c d with ⟨h0, e⟩ | ⟨h0, h1, e⟩ | ⟨h0, h1, h2, h3, e⟩ | ⟨h0, h1, h2, h3, h4, e⟩ | ⟨h0, h1, h2, h3, e⟩
  all_goals
    rw [e]; clear e
    rw [h0] at he
    clear h0
    (try (have h2' : (a == c) = true := by simpa using h2))
    (try (have h2' : (a == c) = false := by simpa using h2))
    go_enter Tryz.func107, Tryz.ntmps107
    go_wp2
    go_ret
    exact ⟨rfl, 0, _, by rw [alloc_eq_grow, alloc_eq_grow, grow_grow]; rfl⟩

end Go.Proofs.YtkkolefionbbcaaGreat

/-
  The document's own Check and Has.
-/
set_option linter.unusedSimpArgs false
set_option linter.unusedVariables false
namespace Go.Proofs.YtkkolefionbbcaaGreat
open Go.RowKit Go.Lib Go.Sort

theorem last_take {α : Type} (l : List α) (i : Nat) (h : i < l.length) : (l.take (i + 1)).getLast? = l[i]? := by
  rw [List.getLast?_eq_getElem?, List.length_take, Nat.min_eq_left (by omega), List.getElem?_take, if_pos (by omega), Nat.add_sub_cancel]

theorem isR_parts (t s c : Int) : (c < 1 ∧ isR ((t, s), c) = false) ∨ (1 ≤ c ∧ isI (t, s) = false ∧ isR ((t, s), c) = false) ∨ (1 ≤ c ∧ isI (t, s) = true ∧ 2147483647 - t < c - 1 ∧ isR ((t, s), c) = false) ∨ (1 ≤ c ∧ isI (t, s) = true ∧ ¬ 2147483647 - t < c - 1 ∧ isR ((t, s), c) = true) := by
  unfold isR
  by_cases h1 : c < 1
  · left; refine ⟨h1, ?_⟩; simp; omega
  · cases h2 : isI (t, s)
    · right; left; exact ⟨by omega, rfl, by simp⟩
    · by_cases h3 : 2147483647 - t < c - 1
      · right; right; left; exact ⟨by omega, rfl, h3, by simp; omega⟩
      · right; right; right; exact ⟨by omega, rfl, h3, by simp; omega⟩

set_option maxRecDepth 100000 in
set_option maxHeartbeats 4000000 in
theorem refRCheck_in (v : Value) (l : List ((Int × Int) × Int)) (w : World) (h : RR w v l) (hin : ∀ r ∈ l, runIn r) (hl : l.length ≤ 1000000000) :
    Calls Tryz.prog 82 #[v] w fun e W => e = .returned (.int .i64 (chkR l)) ∧ Below w.heap.size w W := by
  have mixed : Tryz.prog.follows .mixedOrders = true := by kernel_rfl
  obtain ⟨a, cap, rfl⟩ := RC.form h
  have H := hide h
  have Hin := hide hin
  obtain ⟨n, hn⟩ : ∃ n, l.length = n := ⟨_, rfl⟩
  rw [hn] at H hl ⊢
  have Hn := hide hn
  obtain ⟨R, hR⟩ : ∃ R, chkR l = R := ⟨_, rfl⟩
  rw [hR]
  have HR := hide hR
  clear h hin hn hR
  go_enter Tryz.func82, Tryz.ntmps82
  go_wp2
  go_loopw [3] (fun iv wr => ∃ i : Nat, iv = .int .i64 (i : Nat) ∧ i ≤ n ∧ Hid (chkA (l.take i) (l.drop i) = R ∧ DoneOk (l.take i) ∧ Below w.heap.size w wr)) (fun iv _ => n - (Lib.intOf iv).toNat)
  case atStart => exact ⟨0, rfl, by omega, hide ⟨by rw [← unhide HR]; rfl, DoneOk.nil, Below.refl _ _⟩⟩
  case round =>
    obtain ⟨i, rfl, hin2, HH⟩ := hrel
    obtain ⟨hchk, hdone, hB⟩ := unhide HH
    by_cases hlt : i < n
    · have hlt' : (i : Int) < (n : Int) := by omega
      obtain ⟨r, hr⟩ : ∃ r, l[i]? = some r := ⟨_, List.getElem?_eq_getElem (by have := unhide Hn; omega)⟩
      have hrin := unhide Hin r (List.mem_of_getElem? hr)
      obtain ⟨b0, off, rfl, hb0, c0, c1, c2⟩ := RR.at ((unhide H).below hB) hr
      have hdr : l.drop i = r :: l.drop (i + 1) := by
        have hil := (List.getElem?_eq_some_iff.1 hr).1
        rw [List.drop_eq_getElem_cons hil]
        rw [List.getElem?_eq_getElem hil] at hr
        simp at hr
        rw [hr]
      have htk : l.take (i + 1) = l.take i ++ [r] := by rw [List.take_add_one, hr]; rfl
      obtain ⟨⟨t, s⟩, c⟩ := r
      simp only at c0 c1 c2
      rw [hdr] at hchk
      have HC := hide (fun W => refIsID_in t s W)
      have Htk := hide htk
      have Hchk := hide hchk
      have Hdone := hide hdone
      have HB := hide hB
      obtain ⟨⟨⟨r1, r2⟩, ⟨r3, r4⟩⟩, r5, r6⟩ := hrin
      simp only at r1 r2 r3 r4 r5 r6
      clear HH hr hdr htk hchk hdone hB
      rcases isR_parts t s c with ⟨p1, pR⟩ | ⟨p1, p2, pR⟩ | ⟨p1, p2, p3, pR⟩ | ⟨p1, p2, p3, pR⟩
      · have HRe := hide (show R = 1 by have h := unhide Hchk; rw [chkA, if_pos pR] at h; exact h.symm)
        clear pR
        go_wp2
        go_ret
        rw [unhide HRe]
        exact ⟨rfl, ballc (unhide HB) _⟩
      · have HRe := hide (show R = 1 by have h := unhide Hchk; rw [chkA, if_pos pR] at h; exact h.symm)
        rw [p2] at HC
        clear pR p2
        go_wp2_with (go_at_call 106; refine (unhide HC _).mono ?_; rintro e W1 ⟨rfl, rfl⟩)
        go_ret
        rw [unhide HRe]
        exact ⟨rfl, ballc (ballc (unhide HB) _) _⟩
      · have HRe := hide (show R = 1 by have h := unhide Hchk; rw [chkA, if_pos pR] at h; exact h.symm)
        rw [p2] at HC
        obtain ⟨g1, g2, g3, g4⟩ := isI_range p2
        clear pR p2
        go_wp2_with (go_at_call 106; refine (unhide HC _).mono ?_; rintro e W1 ⟨rfl, rfl⟩)
        go_ret
        rw [unhide HRe]
        exact ⟨rfl, ballc (ballc (unhide HB) _) _⟩
      · rw [p2] at HC
        obtain ⟨g1, g2, g3, g4⟩ := isI_range p2
        have HRt := hide pR
        clear pR p2
        go_wp2_with fail
        refine (unhide HC _).mono ?_
        rintro e W1 ⟨rfl, hW1⟩
        have hb1 : Below wr.heap.size wr W1 := by rw [hW1]; exact ballc (ballc (Below.refl _ _) _) _
        have bx : Bx W1 wr.heap.size 72 #[.int .i64 t, .int .i64 s, .int .i64 c] := by rw [hW1]; exact (Bx.new wr _ _).below (ballc (Below.refl _ _) _)
        have HB1 := hide (bnext (unhide HB) hb1)
        have x0 := bx.cell 0 _ rfl
        have x1 := bx.cell 1 _ rfl
        have x2 := bx.cell 2 _ rfl
        have Hbx := hide bx
        clear hW1 hb1 bx HC
        by_cases hi0 : 0 < i
        · obtain ⟨j, rfl⟩ : ∃ j, i = j + 1 := ⟨i - 1, by omega⟩
          obtain ⟨p, hp⟩ : ∃ p, l[j]? = some p := ⟨_, List.getElem?_eq_getElem (by have := unhide Hn; omega)⟩
          obtain ⟨b9, off9, e9, hb9, d0, d1, d2⟩ := RR.at ((unhide H).below (unhide HB1)) hp
          simp only [Option.some.injEq, Addr.mk.injEq, and_true] at e9
          obtain ⟨rfl, rfl⟩ := e9
          have hO : badO (l.take (j + 1)) ((t, s), c) = decide (0 ≤ cmpI p.1 (t, s)) := by
            unfold badO
            rw [last_take l j (by have := unhide Hn; omega), hp]
          obtain ⟨⟨pt, ps⟩, pc⟩ := p
          simp only at d0 d1 d2 hO
          have HCm := hide (fun W => refCompare_in pt ps t s W)
          have e10 : ∀ args w, (callFunc 107 args).run Tryz.prog w = .ok (.enter 107 args) w := enters_of Tryz.func107 (by kernel_rfl) rfl
          generalize cmpI (pt, ps) (t, s) = cm at hO HCm
          have hbz : b0 < W1.heap.size := hb9
          have hjn : (j : Int) < (n : Int) := by omega
          have hwj : IntKind.i64.wrap (j : Int) = (j : Int) := IntWalk.i64_in _ (by omega)
          have cd0 := fun n os => cell_grown (a := ⟨b0, off + j * 3, none⟩) hbz d0 n os
          have cd1 := fun n os => cell_grown (a := ⟨b0, off + j * 3 + 1, none⟩) hbz d1 n os
          have cx0 := fun n os => cell_grown (unhide Hbx).lt x0 n os
          have cx1 := fun n os => cell_grown (unhide Hbx).lt x1 n os
          clear hp d2 hi0
          by_cases hcm : 0 ≤ cm
          · have HRe := hide (show R = 9 by have h := unhide Hchk; rw [chkA, if_neg (by rw [unhide HRt]; simp), if_pos (by rw [hO]; simpa using hcm)] at h; exact h.symm)
            clear hO
            go_wp2
            go_quiet_grown (first | (go_at_call 107; refine Calls.grown_of (unhide HCm _)) | (refine Calls.grown_of (unhide HCm _)))
            go_wp2
            go_ret
            rw [unhide HRe]
            exact ⟨rfl, bnext (unhide HB1) (GrW.below ⟨nq, osq, rfl⟩)⟩
          · have HO2 := hide (show badO (l.take (j + 1)) ((t, s), c) = false by rw [hO]; simpa using hcm)
            clear hO
            go_wp2
            go_quiet_grown (first | (go_at_call 107; refine Calls.grown_of (unhide HCm _)) | (refine Calls.grown_of (unhide HCm _)))
            have hgw : GrW W1 (grow (W1.drewN nq) osq) := ⟨nq, osq, rfl⟩
            have Hbx2 := hide ((unhide Hbx).below hgw.below)
            have HB2 := hide (bnext (unhide HB1) hgw.below)
            clear hgw cd0 cd1 cx0 cx1 d0 d1 x0 x1 x2 hwj e10
            generalize grow (W1.drewN nq) osq = W2 at *
            go_wp2
            go_loopw [5] (fun kv wq => ∃ k : Nat, kv = .int .i64 (k : Nat) ∧ k ≤ j + 1 ∧ Hid (∀ (j : Nat) q, j < k → l[j]? = some q → (decide (q.1.2 = s) && decide (t ≤ q.1.1 + q.2)) = false) ∧ Hid (Bx wq wr.heap.size 72 #[.int .i64 t, .int .i64 s, .int .i64 c] ∧ Below w.heap.size w wq)) (fun kv _ => j + 1 - (Lib.intOf kv).toNat)
            case atStart => exact ⟨0, rfl, by omega, hide (fun j q h => absurd h (Nat.not_lt_zero _)), hide ⟨unhide Hbx2, unhide HB2⟩⟩
            case round =>
              obtain ⟨k, rfl, hk, Hno, HQ⟩ := hrel
              by_cases hki : k < j + 1
              · have hki' : (k : Int) < ((j + 1 : Nat) : Int) := by omega
                (try push_cast at hki')
                obtain ⟨q, hq⟩ : ∃ q, l[k]? = some q := ⟨_, List.getElem?_eq_getElem (by have := unhide Hn; omega)⟩
                obtain ⟨b9, off9, e9, hb9, d0, d1, d2⟩ := RR.at ((unhide H).below (unhide HQ).2) hq
                simp only [Option.some.injEq, Addr.mk.injEq, and_true] at e9
                obtain ⟨rfl, rfl⟩ := e9
                have hkn : (k : Int) < (n : Int) := by omega
                have hqR := isR_range ((unhide Hdone).1 q (List.mem_of_getElem? (i := k) (by rw [List.getElem?_take, if_pos hki]; exact hq)))
                have y0 := (unhide HQ).1.cell 0 _ rfl
                have y1 := (unhide HQ).1.cell 1 _ rfl
                obtain ⟨⟨qt, qs⟩, qc⟩ := q
                simp only at d0 d1 d2 hqR
                obtain ⟨w1, w2, w3, w4, w5, w6⟩ := hqR
                have Hq := hide hq
                clear hq
                by_cases e1 : qs = s
                · have e1' : (qs == s) = true := by simpa using e1
                  by_cases e2 : t ≤ qt + qc
                  · have HRe := hide (show R = 6 by
                      have h := unhide Hchk
                      rw [chkA, if_neg (by rw [unhide HRt]; simp), if_neg (by rw [unhide HO2]; simp), if_pos] at h
                      · exact h.symm
                      · unfold badF
                        rw [List.any_eq_true]
                        exact ⟨((qt, qs), qc), List.mem_of_getElem? (i := k) (by rw [List.getElem?_take, if_pos hki]; exact unhide Hq), by simp [e1, e2]⟩)
                    clear e1
                    go_wp2
                    go_quiet (fail)
                    go_wp2
                    go_ret
                    rw [unhide HRe]
                    exact ⟨rfl, bdrew (unhide HQ).2 _⟩
                  · have Hno2 := hide (show ∀ (j : Nat) q, j < k + 1 → l[j]? = some q → (decide (q.1.2 = s) && decide (t ≤ q.1.1 + q.2)) = false from fun j q hj hq => by
                      by_cases hjk : j = k
                      · subst hjk
                        rw [unhide Hq] at hq
                        simp at hq
                        subst hq
                        simp [e2]
                      · exact unhide Hno j q (by omega) hq)
                    clear e1
                    go_wp2
                    go_quiet (fail)
                    go_wp2
                    go_roundw
                    case measure => show j + 1 - ((k : Int) + 1).toNat < j + 1 - ((k : Nat) : Int).toNat; omega
                    case rel => exact ⟨k + 1, by go_num, by omega, Hno2, hide ⟨(unhide HQ).1.below (bdrew (Below.refl _ _) _), bdrew (unhide HQ).2 _⟩⟩
                · have e1' : (qs == s) = false := by simpa using e1
                  have Hno2 := hide (show ∀ (j : Nat) q, j < k + 1 → l[j]? = some q → (decide (q.1.2 = s) && decide (t ≤ q.1.1 + q.2)) = false from fun j q hj hq => by
                    by_cases hjk : j = k
                    · subst hjk
                      rw [unhide Hq] at hq
                      simp at hq
                      subst hq
                      simp [e1]
                    · exact unhide Hno j q (by omega) hq)
                  clear e1
                  go_wp2
                  go_quiet (fail)
                  go_wp2
                  go_roundw
                  case measure => show j + 1 - ((k : Int) + 1).toNat < j + 1 - ((k : Nat) : Int).toNat; omega
                  case rel => exact ⟨k + 1, by go_num, by omega, Hno2, hide ⟨(unhide HQ).1.below (bdrew (Below.refl _ _) _), bdrew (unhide HQ).2 _⟩⟩
              · have hki' : ¬ (k : Int) < ((j + 1 : Nat) : Int) := by omega
                (try push_cast at hki')
                have HF2 := hide (show badF (l.take (j + 1)) ((t, s), c) = false by
                  unfold badF
                  rw [List.any_eq_false]
                  intro q hq
                  obtain ⟨j, hj⟩ := List.getElem?_of_mem hq
                  rw [List.getElem?_take] at hj
                  split at hj
                  · have := unhide Hno j q (by omega) hj
                    simp only at this ⊢
                    rw [this]
                    simp
                  · cases hj)
                go_wp2
                go_roundw
                case measure => show n - ((j : Int) + 1 + 1).toNat < n - (((j + 1 : Nat) : Nat) : Int).toNat; omega
                case rel =>
                  refine ⟨j + 1 + 1, by go_num, by omega, hide ⟨?_, ?_, (unhide HQ).2⟩⟩
                  · have h := unhide Hchk
                    rw [chkA, if_neg (by rw [unhide HRt]; simp), if_neg (by rw [unhide HO2]; simp), if_neg (by rw [unhide HF2]; simp)] at h
                    rw [unhide Htk]
                    exact h
                  · rw [unhide Htk]
                    exact (unhide Hdone).snoc (unhide HRt) (unhide HF2)
        · obtain rfl : i = 0 := by omega
          have HO2 := hide (show badO (l.take 0) ((t, s), c) = false from rfl)
          have HF2 := hide (show badF (l.take 0) ((t, s), c) = false from rfl)
          clear hi0
          go_wp2
          go_quiet (fail)
          go_wp2
          go_loopw [5] (fun kv wq => kv = .int .i64 0 ∧ wq = W1.drewN nq) (fun _ _ => 0)
          case atStart => exact ⟨rfl, rfl⟩
          case round =>
            obtain ⟨rfl, rfl⟩ := hrel
            go_wp2
            go_roundw
            case measure => show n - (1 : Int).toNat < n - (0 : Int).toNat; omega
            case rel =>
              refine ⟨1, rfl, by omega, hide ⟨?_, ?_, bdrew (unhide HB1) _⟩⟩
              · have h := unhide Hchk
                rw [chkA, if_neg (by rw [unhide HRt]; simp), if_neg (by rw [unhide HO2]; simp), if_neg (by rw [unhide HF2]; simp)] at h
                rw [unhide Htk]
                exact h
              · rw [unhide Htk]
                exact (unhide Hdone).snoc (unhide HRt) (unhide HF2)
    · have hlt' : ¬ (i : Int) < (n : Int) := by omega
      have HRe := hide (show R = 0 by rw [List.drop_eq_nil_of_le (by have := unhide Hn; omega), chkA] at hchk; exact hchk.symm)
      have HB := hide hB
      clear HH hchk hdone hB
      go_wp2
      go_ret
      rw [unhide HRe]
      exact ⟨rfl, unhide HB⟩

end Go.Proofs.YtkkolefionbbcaaGreat
