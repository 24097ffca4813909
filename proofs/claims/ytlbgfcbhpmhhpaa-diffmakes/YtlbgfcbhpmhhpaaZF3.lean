/-
  The document's own Make.
-/
import Derived.Test.YtlbgfcbhpmhhpaaZF2
set_option linter.unusedSimpArgs false
set_option linter.unusedVariables false
namespace Go.Proofs.Ytlbgfcbhpmhhpaa
open Go.RowKit Go.Lib

set_option maxRecDepth 100000 in
set_option maxHeartbeats 8000000 in
theorem refMake_in (s t : ByteArray) (hs : s.size ≤ 1000000000) (ht : t.size ≤ 1000000000) (w : World) :
    Calls Try.prog 11 #[.string s, .string t] w fun e W => ∃ v, e = .returned (.tuple #[v, .int .i64 (mkErr s t)]) ∧ RE W v (mkRes s t) ∧ Below w.heap.size w W := by
  have hb1 := fun W => hide (refGood_in s hs W)
  have hb2 := fun W => hide (refGood_in t ht W)
  have hr1 := fun W => hide (refRunes_in s (by omega) W)
  have hr2 := fun W => hide (refRunes_in t (by omega) W)
  have hl1 := allL_length s
  have hl2 := allL_length t
  have hm1 := runeL_length s
  have hm2 := runeL_length t
  obtain ⟨i0, hinf, hz0, hz1, hz2⟩ := info_parts infoEdit
  unfold mkRes mkErr
  cases hg1 : goodB s with
  | false =>
    rw [hg1] at hb1
    simp only [Bool.false_and, Bool.false_eq_true, if_false, show (2 : Int) ≠ 0 by decide]
    clear hb2 hr1 hr2 hg1
    go_enter Try.func11, Try.ntmps11
    go_wp2_with fail
    refine (unhide (hb1 _)).mono ?_
    rintro e W1 ⟨rfl, hB1⟩
    go_wp2
    go_ret2
    exact ⟨_, rfl, .inl ⟨rfl, _, _, rfl⟩, hB1⟩
  | true =>
    rw [hg1] at hb1
    cases hg2 : goodB t with
    | false =>
      rw [hg2] at hb2
      simp only [Bool.and_false, Bool.false_eq_true, if_false, show (2 : Int) ≠ 0 by decide]
      clear hr1 hr2 hg1 hg2
      go_enter Try.func11, Try.ntmps11
      go_wp2_with fail
      refine (unhide (hb1 _)).mono ?_
      rintro e W1 ⟨rfl, hB1⟩
      go_wp2_with fail
      refine (unhide (hb2 _)).mono ?_
      rintro e W2 ⟨rfl, hB2⟩
      go_wp2
      go_ret2
      exact ⟨_, rfl, .inl ⟨rfl, _, _, rfl⟩, bnext hB1 hB2⟩
    | true =>
      rw [hg2] at hb2
      simp only [Bool.and_true, if_true]
      rw [hm1] at hr1
      rw [hm2] at hr2
      generalize hN : (allL s).length = N at *
      generalize hM : (allL t).length = M at *
      have Hm1 := hide hm1
      have Hm2 := hide hm2
      clear hg1 hg2 hN hM hm1 hm2
      by_cases hlong : 400 < max N M
      · simp only [if_pos hlong, show (7 : Int) ≠ 0 by decide, if_false]
        go_enter Try.func11, Try.ntmps11
        go_wp2_with fail
        refine (unhide (hb1 _)).mono ?_
        rintro e W1 ⟨rfl, hB1⟩
        go_wp2_with fail
        refine (unhide (hb2 _)).mono ?_
        rintro e W2 ⟨rfl, hB2⟩
        go_wp2_with fail
        refine (unhide (hr1 _)).mono ?_
        rintro e W3 ⟨v3, rfl, ho3, hB3⟩
        obtain ⟨a3, c3, rfl⟩ := owns_form ho3
        clear ho3
        go_wp2_with fail
        refine (unhide (hr2 _)).mono ?_
        rintro e W4 ⟨v4, rfl, ho4, hB4⟩
        obtain ⟨a4, c4, rfl⟩ := owns_form ho4
        clear ho4
        have hB := bnext (bnext (bnext hB1 hB2) hB3) hB4
        by_cases hi4 : 400 < N
        · have d5 : decide ((400 : Int) < (N : Int)) = true := by rw [decide_eq_true_iff]; omega
          go_wp2
          go_ret2
          exact ⟨_, rfl, .inl ⟨rfl, _, _, rfl⟩, hB⟩
        · have d5 : decide ((400 : Int) < (N : Int)) = false := by rw [decide_eq_false_iff_not]; omega
          have d6 : decide ((400 : Int) < (M : Int)) = true := by rw [decide_eq_true_iff]; omega
          go_wp2
          go_ret2
          exact ⟨_, rfl, .inl ⟨rfl, _, _, rfl⟩, hB⟩
      · simp only [if_neg hlong, if_true]
        have hN4 : N ≤ 400 := by omega
        have hM4 : M ≤ 400 := by omega
        have d5 : decide ((400 : Int) < (N : Int)) = false := by rw [decide_eq_false_iff_not]; omega
        have d6 : decide ((400 : Int) < (M : Int)) = false := by rw [decide_eq_false_iff_not]; omega
        clear hlong
        obtain ⟨X, hX⟩ : ∃ X, runeL s = X := ⟨_, rfl⟩
        obtain ⟨Y, hY⟩ : ∃ Y, runeL t = Y := ⟨_, rfl⟩
        rw [hX] at hr1 Hm1 ⊢
        rw [hY] at hr2 Hm2 ⊢
        clear hX hY
        go_enter Try.func11, Try.ntmps11
        go_wp2_with fail
        refine (unhide (hb1 _)).mono ?_
        rintro e W1 ⟨rfl, hB1⟩
        go_wp2_with fail
        refine (unhide (hb2 _)).mono ?_
        rintro e W2 ⟨rfl, hB2⟩
        go_wp2_with fail
        refine (unhide (hr1 _)).mono ?_
        rintro e W3 ⟨v3, rfl, ho3, hB3⟩
        obtain ⟨a3, c3, rfl⟩ := owns_form ho3
        have ra3 : RS W3 (.slice a3 N c3) X := RS.of_owns (by rw [unhide Hm1]; exact ho3)
        have Ra3 := hide ra3
        clear ho3 ra3
        go_wp2_with fail
        refine (unhide (hr2 _)).mono ?_
        rintro e W4 ⟨v4, rfl, ho4, hB4⟩
        obtain ⟨a4, c4, rfl⟩ := owns_form ho4
        have rb : RS W4 (.slice a4 M c4) Y := RS.of_owns (by rw [unhide Hm2]; exact ho4)
        have ra := RS.below hB4 (unhide Ra3)
        have Hra := hide ra
        have Hrb := hide rb
        have hB := bnext (bnext (bnext hB1 hB2) hB3) hB4
        clear ho4 ra rb Ra3 hB1 hB2 hB3 hB4 hb1 hb2 hr1 hr2
        go_wp2_with fail
        refine (left_in W4 X Y N M _ _ _ _ (unhide Hra) (unhide Hrb) (unhide Hm1) (unhide Hm2) hN4 hM4).mono ?_
        rintro e W5 ⟨rfl, hT, hB5⟩
        have HT5 := hide hT
        have Ra := hide (RS.below hB5 (unhide Hra))
        have Rb := hide (RS.below hB5 (unhide Hrb))
        have hBw := bnext hB hB5
        obtain ⟨G, hG⟩ : ∃ G, W4.heap.size = G := ⟨_, rfl⟩
        obtain ⟨S, hS⟩ : ∃ S, (N + 1) * (M + 1) = S := ⟨_, rfl⟩
        have HS := hide hS
        rw [hG] at HT5 ⊢
        rw [hS]
        have hS1 : S ≤ 160801 := by rw [← hS]; exact Nat.mul_le_mul (show N + 1 ≤ 401 by omega) (show M + 1 ≤ 401 by omega)
        clear hT Hra Hrb hB hB5 hG hS
        go_wp2_with fail
        have hbx0 := Box3.new W5 (.int .i64 0) (.int .i64 0) (.string ⟨#[]⟩)
        have hBa : Below W5.heap.size W5 (W5.alloc (.cells #[.int .i64 0, .int .i64 0, .string ⟨#[]⟩] 32)) := (Below.refl _ _).alloc (Nat.le_refl _) _
        have hrm0 : Rm W5 (W5.heap.size + 1) (W5.alloc (.cells #[.int .i64 0, .int .i64 0, .string ⟨#[]⟩] 32)) X Y N M (.slice none 0 0) 0 0 [] 0 0 [] :=
          ⟨hBa, rfl, by simp, by omega, by omega, by omega, by omega, by simp, by simp, World.ownsRow_nil _ _ _ _, hbx0, rfl⟩
        have Hrm0 := hide hrm0
        clear hbx0 hBa hrm0
        obtain ⟨W6, hW6⟩ : ∃ W6, W5.alloc (.cells #[.int .i64 0, .int .i64 0, .string ⟨#[]⟩] 32) = W6 := ⟨_, rfl⟩
        rw [hW6] at Hrm0 ⊢
        clear hW6
        obtain ⟨bx, hbx⟩ : ∃ bx, W5.heap.size = bx := ⟨_, rfl⟩
        have Hbx := hide hbx
        rw [hbx] at Hrm0 ⊢
        clear hbx
        go_loopw [10, 12, 13] (fun ov iv jv wr => ∃ (i j : Nat) (L : List Ed) (k d : Nat) (t : List Int), iv = .int .i64 (i : Nat) ∧ jv = .int .i64 (j : Nat) ∧ Rm W5 (bx + 1) wr X Y N M ov i j L k d t) (fun _ iv jv _ => N + M - ((RowKit.intOf iv).toNat + (RowKit.intOf jv).toNat))
        case atStart => exact ⟨0, 0, [], 0, 0, [], rfl, rfl, unhide Hrm0⟩
        case round =>
          obtain ⟨i, j, L, k, d, t, rfl, rfl, hrm⟩ := hrel
          have hi := hrm.hi
          have hj := hrm.hj
          have hk := hrm.hk
          have hd := hrm.hd
          have htl := hrm.ht
          have hL := hrm.hL
          have Hrow := hide hrm.row
          have hbox := hrm.box
          rw [unhide Hbx] at hbox
          obtain ⟨x0, x1, x2⟩ := hbox.facts
          have z0 := hbox.frz 0
          have z1 := hbox.frz 1
          have z2 := hbox.frz 2
          have hbz := hbox.lt
          have hzT := runesBytes_size t
          have Hrm := hide hrm
          obtain ⟨T, hT⟩ : ∃ T, runesBytes t = T := ⟨_, rfl⟩
          rw [hT] at x2 hzT
          have HT := hide hT
          clear hrm hbox hT
          by_cases hE : i = N ∧ j = M
          · have c1 : decide ((i : Int) < (N : Int)) = false := by rw [decide_eq_false_iff_not]; omega
            have c2 : decide ((j : Int) < (M : Int)) = false := by rw [decide_eq_false_iff_not]; omega
            have c1' : decide (i < N) = false := by rw [decide_eq_false_iff_not]; omega
            have c2' : decide (j < M) = false := by rw [decide_eq_false_iff_not]; omega
            have heq := (unhide Hrm).eq
            have hge := gx_endG X Y k d t
            rw [unhide Hm1, unhide Hm2] at hge
            rw [hE.1, hE.2, hge] at heq
            clear hge hE
            cases hf : full d t with
            | false =>
              rw [hf, if_neg (by decide)] at heq
              obtain ⟨rfl, rfl⟩ := full_no (show ¬ full d t = true by rw [hf]; decide)
              have hTe : T = ⟨#[]⟩ := by rw [← unhide HT]; rfl
              rw [hTe] at x2
              have Heq := hide heq
              clear hf heq hTe
              go_wp2
              go_ret2
              refine ⟨_, rfl, ?_, hBw.trans ((unhide Hrm).bel.mono hBw.size)⟩
              have := RE.of_owns (unhide Hrow)
              rw [← unhide Heq]
              simpa using this
            | true =>
              rw [hf, if_pos rfl] at heq
              have Heq := hide (show L ++ [edOf (k, d, t)] = mkL X Y by simpa using heq)
              clear heq
              by_cases hd0 : 0 < d
              · have c3 : decide ((0 : Int) < (d : Int)) = true := by rw [decide_eq_true_iff]; omega
                have c3' : decide (0 < d) = true := by rw [decide_eq_true_iff]; omega
                clear hf hd0
                go_wp2_with (at_builtin; refine wpList_append_own _ rfl _ _ 23 rfl (bx + 1) 32 i0 _ 3 32 Try.underlying23 hinf hz0 hz1 hz2 rfl (by decide) u10 L.length (edsC L) rfl (World.ownsRow.alloc (unhide Hrow) _) ⟨wr.heap.size, 0, none⟩ 1 1 (edC ((k : Int), (d : Int), T)) rfl rfl (new_three _ _ _ _ _) (by simp [edC, Value.oneCell']) (by unfold maxLen; omega) (by omega) (by simp; omega) ?_; intro v4 W4 ho4 hg4 _)
                have hB4 : Below (bx + 1) wr W4 := ((Below.refl (bx + 1) wr).alloc (unhide Hrm).hz _).grown hg4 (by simp; omega) (fun q e => ((unhide Hrow).lt q e).1)
                go_ret2
                refine ⟨v4, rfl, ?_, ?_⟩
                · have hre : W4.ownsRow (bx + 1) 32 3 v4 (mkL X Y).length (edsC (mkL X Y)) := by
                    rw [← unhide Heq, edsC_append, List.length_append]
                    rw [← unhide HT] at ho4
                    exact ho4
                  exact RE.of_owns hre
                · exact hBw.trans (((unhide Hrm).bel.trans (hB4.mono (by have := unhide Hbx; omega))).mono hBw.size)
              · have htne : t ≠ [] := by
                  intro e
                  subst e
                  have : d = 0 := by omega
                  subst this
                  cases hf
                have c3 : decide ((0 : Int) < (d : Int)) = false := by rw [decide_eq_false_iff_not]; omega
                have c3' : decide (0 < d) = false := by rw [decide_eq_false_iff_not]; omega
                have hTp : 0 < T.size := by rw [← unhide HT]; exact runesBytes_pos htne
                have c4 := toList_pos' hTp
                clear hf hd0 htne
                go_wp2_with (at_builtin; refine wpList_append_own _ rfl _ _ 23 rfl (bx + 1) 32 i0 _ 3 32 Try.underlying23 hinf hz0 hz1 hz2 rfl (by decide) u10 L.length (edsC L) rfl (World.ownsRow.alloc (unhide Hrow) _) ⟨wr.heap.size, 0, none⟩ 1 1 (edC ((k : Int), (d : Int), T)) rfl rfl (new_three _ _ _ _ _) (by simp [edC, Value.oneCell']) (by unfold maxLen; omega) (by omega) (by simp; omega) ?_; intro v4 W4 ho4 hg4 _)
                have hB4 : Below (bx + 1) wr W4 := ((Below.refl (bx + 1) wr).alloc (unhide Hrm).hz _).grown hg4 (by simp; omega) (fun q e => ((unhide Hrow).lt q e).1)
                go_ret2
                refine ⟨v4, rfl, ?_, ?_⟩
                · have hre : W4.ownsRow (bx + 1) 32 3 v4 (mkL X Y).length (edsC (mkL X Y)) := by
                    rw [← unhide Heq, edsC_append, List.length_append]
                    rw [← unhide HT] at ho4
                    exact ho4
                  exact RE.of_owns hre
                · exact hBw.trans (((unhide Hrm).bel.trans (hB4.mono (by have := unhide Hbx; omega))).mono hBw.size)
          · have hE0 := hide hE
            have iN : i = N → j < M := fun e => by omega
            have htab : ∀ a b : Nat, a ≤ N → b ≤ M → wr.cell? ⟨G, a * (M + 1) + b, none⟩ = some (.int .i64 (td X Y a b : Nat)) := fun a b ha hb => cell_below (unhide HT5 a b ha hb) (by have := (unhide Hrm).bel; exact this)
            have ra' := RS.below (unhide Hrm).bel (unhide Ra)
            have rb' := RS.below (unhide Hrm).bel (unhide Rb)
            have Hbx1 := hide (show Box3 wr bx (.int .i64 (k : Nat)) (.int .i64 (d : Nat)) (.string T) by have := (unhide Hrm).box; rw [unhide Hbx, unhide HT] at this; exact this)
            have hor : (i < N ∨ j < M) := by omega
            by_cases hiN : i < N
            · have c1 : decide ((i : Int) < (N : Int)) = true := by rw [decide_eq_true_iff]; omega
              have c1' : decide (i < N) = true := by rw [decide_eq_true_iff]; omega
              have g1 : (i : Int) < (N : Int) := by omega
              obtain ⟨ba, oa, rfl, x3⟩ := ra'.at (i := i) (by rw [unhide Hm1]; exact hiN)
              have hba := World.block_lt_of_cell? _ _ x3
              simp only at hba
              by_cases hjM : j < M
              · have c2 : decide ((j : Int) < (M : Int)) = true := by rw [decide_eq_true_iff]; omega
                have c2' : decide (j < M) = true := by rw [decide_eq_true_iff]; omega
                have c2'' : ((j : Int) == (M : Int)) = false := by rw [beq_eq_false_iff_ne]; omega
                have g2 : (j : Int) < (M : Int) := by omega
                obtain ⟨bb, ob, rfl, y3⟩ := rb'.at (i := j) (by rw [unhide Hm2]; exact hjM)
                have hbb := World.block_lt_of_cell? _ _ y3
                simp only at hbb
                have hsm := smB_in (x := X) (y := Y) (i := i) (j := j) (by rw [unhide Hm1]; exact hiN) (by rw [unhide Hm2]; exact hjM)
                have hyj : Y[j]? = some (Y[j]'(by rw [unhide Hm2]; exact hjM)) := List.getElem?_eq_getElem _
                have hmd : mdB X Y i j = decide (td X Y (i + 1) j < td X Y i j) := by unfold mdB; rw [unhide Hm1]; simp [hiN]
                generalize X[i]'(by rw [unhide Hm1]; exact hiN) = x at *
                generalize Y[j]'(by rw [unhide Hm2]; exact hjM) = y at *
                have Hyj := hide hyj
                by_cases hxy : x = y
                · have k3 : (x == y) = true := by rw [beq_iff_eq]; exact hxy
                  have Hsm := hide (hsm.trans (decide_eq_true hxy))
                  clear hsm hmd hxy htab ra' rb' hor iN hE hyj
                  cases hf : full d t with
                  | false =>
                    have Hf := hide hf
                    obtain ⟨hd0, ht0⟩ := full_no (show ¬ full d t = true by rw [hf]; decide)
                    have hTe : T = ⟨#[]⟩ := by rw [← unhide HT, ht0]; rfl
                    rw [hTe] at x2
                    have c3 : decide ((0 : Int) < (d : Int)) = false := by rw [decide_eq_false_iff_not]; omega
                    have c3' : decide (0 < d) = false := by rw [decide_eq_false_iff_not]; omega
                    clear hf hd0 ht0 hTe
                    go_wp2
                    go_quiet (fail)
                    go_wp2
                    have hk2 := ((unhide Hrm).drew nq).keep (unhide Hm1) (unhide Hm2) (unhide Hsm) (unhide Hf)
                    rw [unhide Hbx] at hk2
                    have Hk2 := hide hk2
                    clear hk2
                    go_roundw
                    case rel => exact ⟨i + 1, j + 1, L, k + 1, d, t, by go_num, by go_num, unhide Hk2⟩
                    case measure => simp [RowKit.intOf]; omega
                  | true =>
                    have Hf := hide hf
                    by_cases hd0 : 0 < d
                    · have c3 : decide ((0 : Int) < (d : Int)) = true := by rw [decide_eq_true_iff]; omega
                      have c3' : decide (0 < d) = true := by rw [decide_eq_true_iff]; omega
                      clear hf hd0
                      go_wp2
                      go_quiet (fail)
                      go_wp2_with (at_builtin; refine wpList_append_own _ rfl _ _ 23 rfl (bx + 1) 32 i0 _ 3 32 Try.underlying23 hinf hz0 hz1 hz2 rfl (by decide) u10 L.length (edsC L) rfl (World.ownsRow.alloc (show (wr.drewN nq).ownsRow _ _ _ _ _ _ from unhide Hrow) _) ⟨wr.heap.size, 0, none⟩ 1 1 (edC ((k : Int), (d : Int), T)) rfl rfl (new_three _ _ _ _ _) (by simp [edC, Value.oneCell']) (by unfold maxLen; omega) (by omega) (by simp; omega) ?_; intro v4 W4 ho4 hg4 _; have hB4 : Below (bx + 1) wr W4 := ((⟨rfl, rfl, rfl, Nat.le_refl _, fun _ _ => rfl⟩ : Below (bx + 1) wr (wr.drewN nq)).alloc (unhide Hrm).hz _).grown hg4 (by simp; omega) (fun q e => ((unhide Hrow).lt q e).1); have hbx4 := hide ((hB4.block bx (by omega)).trans (unhide Hbx1)); obtain ⟨y0, y1, y2⟩ := Box3.facts (unhide hbx4); have w0 := Box3.frz (unhide hbx4) 0; have w1 := Box3.frz (unhide hbx4) 1; have w2 := Box3.frz (unhide hbx4) 2; have wz := Box3.lt (unhide hbx4))
                      have hnx := ((unhide Hrm)).next (unhide Hm1) (unhide Hm2) (unhide Hsm) (unhide Hf) hB4 (by rw [unhide HT]; exact ho4)
                      rw [unhide Hbx] at hnx
                      have Hnx := hide hnx
                      clear hnx
                      go_roundw
                      case rel => exact ⟨i + 1, j + 1, L ++ [edOf (k, d, t)], 1, 0, [], by go_num, by go_num, unhide Hnx⟩
                      case measure => simp [RowKit.intOf]; omega
                    · have htne : t ≠ [] := by
                        intro e
                        subst e
                        have : d = 0 := by omega
                        subst this
                        cases hf
                      have c3 : decide ((0 : Int) < (d : Int)) = false := by rw [decide_eq_false_iff_not]; omega
                      have c3' : decide (0 < d) = false := by rw [decide_eq_false_iff_not]; omega
                      have hTp : 0 < T.size := by rw [← unhide HT]; exact runesBytes_pos htne
                      have c4 := toList_pos' hTp
                      clear hf hd0 htne
                      go_wp2
                      go_quiet (fail)
                      go_wp2_with (at_builtin; refine wpList_append_own _ rfl _ _ 23 rfl (bx + 1) 32 i0 _ 3 32 Try.underlying23 hinf hz0 hz1 hz2 rfl (by decide) u10 L.length (edsC L) rfl (World.ownsRow.alloc (show (wr.drewN nq).ownsRow _ _ _ _ _ _ from unhide Hrow) _) ⟨wr.heap.size, 0, none⟩ 1 1 (edC ((k : Int), (d : Int), T)) rfl rfl (new_three _ _ _ _ _) (by simp [edC, Value.oneCell']) (by unfold maxLen; omega) (by omega) (by simp; omega) ?_; intro v4 W4 ho4 hg4 _; have hB4 : Below (bx + 1) wr W4 := ((⟨rfl, rfl, rfl, Nat.le_refl _, fun _ _ => rfl⟩ : Below (bx + 1) wr (wr.drewN nq)).alloc (unhide Hrm).hz _).grown hg4 (by simp; omega) (fun q e => ((unhide Hrow).lt q e).1); have hbx4 := hide ((hB4.block bx (by omega)).trans (unhide Hbx1)); obtain ⟨y0, y1, y2⟩ := Box3.facts (unhide hbx4); have w0 := Box3.frz (unhide hbx4) 0; have w1 := Box3.frz (unhide hbx4) 1; have w2 := Box3.frz (unhide hbx4) 2; have wz := Box3.lt (unhide hbx4))
                      have hnx := ((unhide Hrm)).next (unhide Hm1) (unhide Hm2) (unhide Hsm) (unhide Hf) hB4 (by rw [unhide HT]; exact ho4)
                      rw [unhide Hbx] at hnx
                      have Hnx := hide hnx
                      clear hnx
                      go_roundw
                      case rel => exact ⟨i + 1, j + 1, L ++ [edOf (k, d, t)], 1, 0, [], by go_num, by go_num, unhide Hnx⟩
                      case measure => simp [RowKit.intOf]; omega
                · have k3 : (x == y) = false := by rw [beq_eq_false_iff_ne]; exact hxy
                  have Hsm := hide (hsm.trans (decide_eq_false hxy))
                  have q2 := htab (i + 1) j (by omega) hj
                  have q4 := htab i j hi hj
                  obtain ⟨Q, hQ⟩ : ∃ Q, i * (M + 1) = Q := ⟨_, rfl⟩
                  have p1 : (i : Int) * ((M : Int) + 1) = (Q : Nat) := by rw [← hQ]; simp
                  have p2 : ((i : Int) + 1) * ((M : Int) + 1) = ((Q : Nat) : Int) + ((M : Int) + 1) := by rw [← p1, Int.add_mul]; simp
                  have r1 := idx_lt (N := N) (M := M) (i := i + 1) (j := j) (by omega) hj
                  rw [unhide HS, Nat.add_mul, hQ] at r1
                  rw [Nat.add_mul, hQ, show Q + 1 * (M + 1) + j = Q + M + 1 + j by omega] at q2
                  rw [hQ] at q4
                  have u2 : (((Q : Nat) : Int) + ((M : Int) + 1) + (j : Int)).toNat = Q + M + 1 + j := by omega
                  have u3 : (((Q : Nat) : Int) + (j : Int)).toNat = Q + j := by omega
                  have u5 : ((Q : Nat) : Int) + ((M : Int) + 1) + (j : Int) < ((S : Nat) : Int) := by omega
                  have u6 : ((Q : Nat) : Int) + (j : Int) < ((S : Nat) : Int) := by omega
                  have u8 : (0 : Int) ≤ ((Q : Nat) : Int) + ((M : Int) + 1) + (j : Int) := by omega
                  have u9 : (0 : Int) ≤ ((Q : Nat) : Int) + (j : Int) := by omega
                  have hgz := World.block_lt_of_cell? _ _ q4
                  simp only at hgz
                  generalize td X Y (i + 1) j = T2 at *
                  generalize td X Y i j = T1 at *
                  clear hsm hxy htab ra' rb' hor iN hE hyj hQ r1
                  by_cases hlt : T2 < T1
                  · have c5 : decide ((T2 : Int) < (T1 : Int)) = true := by rw [decide_eq_true_iff]; omega
                    have c5' : decide (T2 < T1) = true := by rw [decide_eq_true_iff]; omega
                    have Hmd := hide (hmd.trans c5')
                    clear hmd
                    go_wp2
                    go_quiet (fail)
                    go_wp2
                    go_quiet (fail)
                    go_wp2
                    have hdr := fun n => ((unhide Hrm).drew n).drop (unhide Hm1) (unhide Hm2) (unhide Hsm) (unhide Hmd)
                    simp only [unhide Hbx] at hdr
                    have Hdr := hide hdr
                    clear hdr
                    go_roundw
                    case rel => exact ⟨i + 1, j, L, k, d + 1, t, by go_num, by rfl, unhide Hdr _⟩
                    case measure => simp [RowKit.intOf]; omega
                  · have c5 : decide ((T2 : Int) < (T1 : Int)) = false := by rw [decide_eq_false_iff_not]; omega
                    have c5' : decide (T2 < T1) = false := by rw [decide_eq_false_iff_not]; omega
                    have Hmd := hide (hmd.trans c5')
                    clear hmd
                    have hez := encode_size_le y
                    have henc := fun W => hide (refEncode_any y W)
                    go_wp2
                    go_quiet (fail)
                    go_wp2
                    go_quiet (fail)
                    go_wp2
                    go_region_with (go_at_call 31; refine (unhide (henc _)).mono ?_; rintro e W7 ⟨rfl, hB7⟩; have hb7 : Below wr.heap.size wr W7 := ⟨hB7.os, hB7.tape, hB7.output, hB7.size, hB7.block⟩; have hbx7 := hide ((unhide Hbx1).below hb7); obtain ⟨y0, y1, y2⟩ := (unhide hbx7).facts; have w2 := (unhide hbx7).frz 2; have wz := (unhide hbx7).lt)
                    all_goals
                      have hly := ((unhide Hrm).later hb7).lay (unhide Hm1) (unhide Hm2) (unhide Hsm) (unhide Hmd) (unhide hE0) y (unhide Hyj)
                      rw [unhide Hbx, unhide HT] at hly
                      have Hly := hide hly
                      clear hly
                      go_wp2
                      go_roundw
                      case rel => exact ⟨i, j + 1, L, k, d, t ++ [y], by rfl, by go_num, unhide Hly⟩
                      case measure => simp [RowKit.intOf]; omega
              · have c2 : decide ((j : Int) < (M : Int)) = false := by rw [decide_eq_false_iff_not]; omega
                have c2' : decide (j < M) = false := by rw [decide_eq_false_iff_not]; omega
                have c2'' : ((j : Int) == (M : Int)) = true := by rw [beq_iff_eq]; omega
                have Hsm := hide (show smB X Y i j = false by unfold smB; rw [List.getElem?_eq_none (show Y.length ≤ j by rw [unhide Hm2]; omega)]; cases X[i]? <;> rfl)
                have Hmd := hide (show mdB X Y i j = true by
                  have t1 := td_end (x := X) (y := Y) (i := i) (j := j) (by rw [unhide Hm1]; omega) (by rw [unhide Hm2]; omega) (.inr (by rw [unhide Hm2]; omega))
                  have t2 := td_end (x := X) (y := Y) (i := i + 1) (j := j) (by rw [unhide Hm1]; omega) (by rw [unhide Hm2]; omega) (.inr (by rw [unhide Hm2]; omega))
                  unfold mdB
                  have e1 := unhide Hm1
                  have e2 := unhide Hm2
                  rw [e1, e2] at t1 t2
                  rw [e1]
                  simp only [Bool.and_eq_true, decide_eq_true_eq]
                  omega)
                clear htab ra' rb' hor iN hE
                go_wp2
                go_quiet (fail)
                go_wp2
                go_quiet (fail)
                go_wp2
                have hdr := fun n => ((unhide Hrm).drew n).drop (unhide Hm1) (unhide Hm2) (unhide Hsm) (unhide Hmd)
                simp only [unhide Hbx] at hdr
                have Hdr := hide hdr
                clear hdr
                go_roundw
                case rel => exact ⟨i + 1, j, L, k, d + 1, t, by go_num, by rfl, unhide Hdr _⟩
                case measure => simp [RowKit.intOf]; omega
            · have hjM : j < M := by omega
              have c1 : decide ((i : Int) < (N : Int)) = false := by rw [decide_eq_false_iff_not]; omega
              have c1' : decide (i < N) = false := by rw [decide_eq_false_iff_not]; omega
              have c2 : decide ((j : Int) < (M : Int)) = true := by rw [decide_eq_true_iff]; omega
              have c2' : decide (j < M) = true := by rw [decide_eq_true_iff]; omega
              have c2'' : ((j : Int) == (M : Int)) = false := by rw [beq_eq_false_iff_ne]; omega
              have g2 : (j : Int) < (M : Int) := by omega
              obtain ⟨bb, ob, rfl, y3⟩ := rb'.at (i := j) (by rw [unhide Hm2]; exact hjM)
              have hbb := World.block_lt_of_cell? _ _ y3
              simp only at hbb
              have hyj : Y[j]? = some (Y[j]'(by rw [unhide Hm2]; exact hjM)) := List.getElem?_eq_getElem _
              generalize Y[j]'(by rw [unhide Hm2]; exact hjM) = y at *
              have Hyj := hide hyj
              have Hsm := hide (show smB X Y i j = false by unfold smB; rw [List.getElem?_eq_none (show X.length ≤ i by rw [unhide Hm1]; omega)])
              have Hmd := hide (show mdB X Y i j = false by unfold mdB; rw [unhide Hm1]; simp [hiN])
              clear htab ra' rb' hor iN hE hyj
              have hez := encode_size_le y
              have henc := fun W => hide (refEncode_any y W)
              go_wp2
              go_quiet (fail)
              go_wp2
              go_quiet (fail)
              go_wp2
              go_region_with (go_at_call 31; refine (unhide (henc _)).mono ?_; rintro e W7 ⟨rfl, hB7⟩; have hb7 : Below wr.heap.size wr W7 := ⟨hB7.os, hB7.tape, hB7.output, hB7.size, hB7.block⟩; have hbx7 := hide ((unhide Hbx1).below hb7); obtain ⟨y0, y1, y2⟩ := (unhide hbx7).facts; have w2 := (unhide hbx7).frz 2; have wz := (unhide hbx7).lt)
              all_goals
                have hly := ((unhide Hrm).later hb7).lay (unhide Hm1) (unhide Hm2) (unhide Hsm) (unhide Hmd) (unhide hE0) y (unhide Hyj)
                rw [unhide Hbx, unhide HT] at hly
                have Hly := hide hly
                clear hly
                go_wp2
                go_roundw
                case rel => exact ⟨i, j + 1, L, k, d, t ++ [y], by rfl, by go_num, unhide Hly⟩
                case measure => simp [RowKit.intOf]; omega

end Go.Proofs.Ytlbgfcbhpmhhpaa
