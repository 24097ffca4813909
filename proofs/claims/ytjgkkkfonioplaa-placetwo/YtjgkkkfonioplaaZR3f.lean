/-
  The document's own Cell.
-/
import Derived.Test.YtjgkkkfonioplaaZXRef
import Derived.Test.YtjgkkkfonioplaaZPlC
import Derived.Test.YtjgkkkfonioplaaZXPlace
set_option linter.unusedSimpArgs false
set_option linter.unusedVariables false
namespace Go.Proofs.Ytjgkkkfonioplaa
open Go.RowKit Go.Lib

set_option maxRecDepth 100000 in
set_option maxHeartbeats 2000000 in
theorem refCell_no (s : ByteArray) (l c : Int) (hs : s.size ≤ 1000000) (h : l < 1 ∨ (pL s (pN s) : Nat) < l) (w : World) :
    Calls Try.prog 12 #[.string s, .int .i64 l, .int .i64 c] w fun e w' => e = .returned (.tuple #[zeroV, .int .i64 3]) ∧ Below w.heap.size w w' := by
  have hL := fun w => hide (refLine_no s l hs h w)
  have hB0 : ∀ A : Obj, Below w.heap.size w (w.alloc A) := fun A => (Below.refl _ w).alloc (Nat.le_refl _) _
  have b6 := Box6.new w (.int .i64 0) (.int .i64 0) (.int .i64 0) (.int .i64 0) (.int .i64 0) (.int .i64 0)
  clear h hs
  go_enter Try.func12, Try.ntmps12
  go_wp2_with (go_at_call 25; refine (unhide (hL _)).mono ?_; rintro e w1 ⟨rfl, hb1⟩; obtain ⟨c0, c1, c2, c3, c4, c5, f0, f1, f2, f3, f4, f5⟩ := (b6.below hb1).facts)
  refine bodyPost_ret (v := .tuple #[zeroV, .int .i64 3]) ?_ rfl ⟨rfl, ?_⟩
  · simp [results, Try.f12, go_sem, zeroV, spV, *]
  · exact bset6 (bnext (hB0 _) hb1) (by omega) _ _ _ _ _ _

set_option maxRecDepth 100000 in
set_option maxHeartbeats 16000000 in
theorem refCell_yes (s : ByteArray) (l c : Int) (hs : s.size ≤ 1000000) (h1 : 1 ≤ l) (h2 : l ≤ (pL s (pN s) : Nat)) (w : World) :
    Calls Try.prog 12 #[.string s, .int .i64 l, .int .i64 c] w fun e w' => e = .returned (cellV s l c) ∧ Below w.heap.size w w' := by
  have hN := pN_le s
  have hL := fun w => hide (refLine_yes s l hs h1 h2 w)
  have hB0 : ∀ A : Obj, Below w.heap.size w (w.alloc A) := fun A => (Below.refl _ w).alloc (Nat.le_refl _) _
  have b6 := Box6.new w (.int .i64 0) (.int .i64 0) (.int .i64 0) (.int .i64 0) (.int .i64 0) (.int .i64 0)
  obtain ⟨hp1, hp2, hp3, hp4⟩ := line_part h1 h2
  have hcols := fun m R1 R2 => cell_cols (s := s) (l := l) (m := m) (R1 := R1) (R2 := R2) h1 h2
  have htl : (s.extract (lineB s l) (lineB s (l + 1))).size ≤ s.size := by rw [size_ext s _ _ (lineB_le s _)]; have := lineB_le s (l + 1); omega
  obtain ⟨t, ht⟩ : ∃ t, s.extract (lineB s l) (lineB s (l + 1)) = t := ⟨_, rfl⟩
  rw [ht] at hL hp1 hp2 hp3 hp4 htl
  have hal := allL_length t
  obtain ⟨R, hR⟩ : ∃ R, cellV s l c = R := ⟨_, rfl⟩
  rw [hR]
  have hyes : cellOK s l c = true → ∀ k, cellK s l c = k → R = .tuple #[spN s k, .int .i64 0] := fun h k e => by rw [← hR]; unfold cellV; rw [if_pos h, e]
  have hno : cellOK s l c = false → R = .tuple #[zeroV, .int .i64 3] := fun h => by rw [← hR]; unfold cellV; rw [if_neg (by rw [h]; decide)]
  have Hyes := hide hyes
  have Hno := hide hno
  have Hcols := hide hcols
  have Hp1 := hide hp1
  have Hp2 := hide hp2
  have Hp3 := hide hp3
  have Hp4 := hide hp4
  clear hR hyes hno hcols ht h1 h2 hp1 hp2 hp3 hp4
  go_enter Try.func12, Try.ntmps12
  go_wp2_with (first | (go_at_call 25; refine (unhide (hL _)).mono ?_; rintro e w1 ⟨rfl, hb1⟩) | (go_at_call 30; fail))
  refine (pieces_in t (by omega) _).mono ?_
  rintro e W1 ⟨pv, rfl, hop, hbW⟩
  have hB1 := bnext (bnext (hB0 _) hb1) hbW
  have b61 := (b6.below hb1).below hbW
  obtain ⟨m, hm⟩ : ∃ m, (allL t).length = m := ⟨_, rfl⟩
  obtain ⟨pa, pc, rfl⟩ := owns_form hop
  have hcell : ∀ pg q, pa = some ⟨pg, 0, none⟩ → q < m → W1.cell? ⟨pg, q * 4 + 1, none⟩ = some (.int .i32 (rn s (pB s (lineK s l + q)) : Nat)) := fun pg q e hq => by
    subst e
    have hq2 : q < (allL t).length := by omega
    have h3 := pcs_cell hop (List.getElem?_eq_getElem hq2) 1 (by omega)
    rw [h3, ← unhide Hp4 q _ (List.getElem?_eq_getElem hq2)]; rfl
  have hpa : 0 < m → ∃ pg, pa = some ⟨pg, 0, none⟩ := fun h => owns_some hop (by omega)
  have Hcell := hide hcell
  rw [hm] at Hp1 Hp2 Hp3 hal ⊢
  have Hop := hide hop
  obtain ⟨a0, ha0⟩ : ∃ a0, lineK s l = a0 := ⟨_, rfl⟩
  clear hcell hm hop b6 hB0 hL
  have hm6 : m ≤ 1000000 := by omega
  -- what the columns are
  have hco : Hid (∀ N R1 R2 : Nat, (0 < m → R1 = rn s (pB s (lineK s l + (m - 1)))) → (1 < m → R2 = rn s (pB s (lineK s l + (m - 2)))) → nC m R1 R2 = N → (1 ≤ c ∧ c ≤ (N : Int) + 1 → ∃ k, k ≤ pN s ∧ R = .tuple #[spN s k, .int .i64 0] ∧ (pL s k : Int) = l ∧ (pK s k : Int) = c) ∧ (¬ (1 ≤ c ∧ c ≤ (N : Int) + 1) → R = .tuple #[zeroV, .int .i64 3])) := hide (fun N R1 R2 g1 g2 g3 => by
    have h3 := unhide Hcols m R1 R2 (unhide Hp1) (unhide Hp2) (unhide Hp3) g1 g2 c
    rw [g3] at h3
    refine ⟨fun h => ?_, fun h => unhide Hno (h3.2 h)⟩
    obtain ⟨g4, k, g5, g6, g7, g8⟩ := h3.1 h
    exact ⟨k, g5, unhide Hyes g4 k g8, g6, g7⟩)
  have hsp := hide (fun W => spots_in s hs W)
  have hs6 : s.size ≤ 1000000 := hs
  clear Hcols Hp1 Hp2 Hp3 Hp4 Hyes Hno hs
  by_cases hm0 : m = 0
  · subst hm0
    obtain ⟨hin, hout⟩ := unhide hco (0) 0 0 (fun h => by omega) (fun h => by omega) rfl
    have Hin := hide hin
    have Hout := hide hout
    clear hin hout hco Hop Hcell hpa 
    by_cases hcc : 1 ≤ c ∧ c ≤ ((0 : Nat) : Int) + 1
    · obtain ⟨k, hkN, hRk, hkl, hkc⟩ := unhide Hin hcc
      have q1 : decide (c < 1) = false := decide_eq_false (by omega)
      have q2 : decide (((0 : Nat) : Int) + 1 < c) = false := decide_eq_false (by omega)
      have q3 : ¬ c < 1 := by omega
      have q4 : ¬ ((0 : Nat) : Int) + 1 < c := by omega
      have HRk := hide hRk
      have Hkl := hide hkl
      have Hkc := hide hkc
      clear hcc hRk hkl hkc Hin Hout
      go_wp2_with fail
      refine (unhide hsp _).mono ?_
      rintro e W2 ⟨v2, rfl, ⟨g, cap, rfl, hc⟩, hbW2⟩
      have hB2 := bnext hB1 hbW2
      have b62 := b61.below hbW2
      have hsix := fun k (hk : k ≤ pN s) => sp_six (cap := cap) hc hk
      have Hsix := hide hsix
      obtain ⟨NN, hNN⟩ : ∃ NN, pN s = NN := ⟨_, rfl⟩
      rw [hNN] at hN hkN Hsix ⊢
      clear hc hsix hNN q1 q2 q3 q4 hB1 b61 hbW2
      go_wp2_with fail
      go_loopw [13] (fun iv wr => ∃ i : Nat, i ≤ k ∧ iv = .int .i64 (i : Nat) ∧ wr = W2) (fun iv _ => NN + 1 - (RowKit.intOf iv).toNat)
      case atStart => exact ⟨0, by omega, rfl, rfl⟩
      case round =>
        obtain ⟨i, hik, rfl, rfl⟩ := hrel
        obtain ⟨c0, c1, c2, c3, c4, c5⟩ := unhide Hsix i (by omega)
        obtain ⟨d0, d1, d2, d3, d4, d5, f0, f1, f2, f3, f4, f5⟩ := b62.facts
        have i1 : (i : Int) < ((NN + 1 : Nat) : Int) := by omega
        have i2 : (i : Int) < (NN : Int) + 1 := by omega
        have i3 : (0 : Int) ≤ (i : Int) := by omega
        by_cases hie : i = k
        · have e1 : (pL s i : Int) = l := by rw [hie]; exact unhide Hkl
          have e2 : (pK s i : Int) = c := by rw [hie]; exact unhide Hkc
          have hRi : R = .tuple #[.agg #[.int .i64 (pB s i : Nat), .int .i64 (i : Nat), .int .i64 (pU s i : Nat), .int .i64 (pC s i : Nat), .int .i64 (pL s i : Nat), .int .i64 (pK s i : Nat)], .int .i64 0] := by rw [hie]; exact unhide HRk
          obtain ⟨PL, hPL⟩ : ∃ PL, pL s i = PL := ⟨_, rfl⟩
          obtain ⟨PK, hPK⟩ : ∃ PK, pK s i = PK := ⟨_, rfl⟩
          rw [hPL] at c4 e1 hRi
          rw [hPK] at c5 e2 hRi
          generalize pB s i = v0 at c0 hRi
          generalize pU s i = v2 at c2 hRi
          generalize pC s i = v3 at c3 hRi
          have g1 : ((PL : Int) == l) = true := by rw [beq_iff_eq]; exact e1
          have g2 : ((PK : Int) == c) = true := by rw [beq_iff_eq]; exact e2
          have HRi := hide hRi
          clear hPL hPK hie e1 e2 hRi
          go_wp2
          refine bodyPost_ret (v := .tuple #[.agg #[.int .i64 (v0 : Nat), .int .i64 (i : Nat), .int .i64 (v2 : Nat), .int .i64 (v3 : Nat), .int .i64 (PL : Nat), .int .i64 (PK : Nat)], .int .i64 0]) ?_ rfl ⟨by rw [unhide HRi], ?_⟩
          · simp [results, Try.f12, go_sem, *]
          · exact bset6 hB2 (by omega) _ _ _ _ _ _
        · have hne : ¬ ((pL s i : Int) = l ∧ (pK s i : Int) = c) := fun h => hie (lk_inj s (by have := unhide Hkl; omega) (by have := unhide Hkc; omega))
          have hik2 : i + 1 ≤ k := by omega
          obtain ⟨PL, hPL⟩ : ∃ PL, pL s i = PL := ⟨_, rfl⟩
          obtain ⟨PK, hPK⟩ : ∃ PK, pK s i = PK := ⟨_, rfl⟩
          rw [hPL] at c4 hne
          rw [hPK] at c5 hne
          clear hPL hPK hie
          by_cases e1 : (PL : Int) = l
          · have g1 : ((PL : Int) == l) = true := by rw [beq_iff_eq]; exact e1
            have g2 : ((PK : Int) == c) = false := by rw [beq_eq_false_iff_ne]; exact fun h => hne ⟨e1, h⟩
            clear hne e1
            go_wp2
            go_roundw
            case rel => exact ⟨i + 1, hik2, by go_num, by trivial⟩
            case measure => simp [RowKit.intOf]; omega
          · have g1 : ((PL : Int) == l) = false := by rw [beq_eq_false_iff_ne]; exact e1
            clear hne e1
            go_wp2
            go_roundw
            case rel => exact ⟨i + 1, hik2, by go_num, by trivial⟩
            case measure => simp [RowKit.intOf]; omega
    · have hRk := hide (unhide Hout hcc)
      obtain ⟨d0, d1, d2, d3, d4, d5, f0, f1, f2, f3, f4, f5⟩ := b61.facts
      clear Hin Hout
      by_cases q3 : c < 1
      · have q1 : decide (c < 1) = true := decide_eq_true q3
        clear hcc
        go_wp2
        refine bodyPost_ret (v := (.tuple #[zeroV, .int .i64 3])) ?_ rfl ⟨by rw [unhide hRk], ?_⟩
        · simp [results, Try.f12, go_sem, zeroV, spV, *]
        · exact bset6 hB1 (by omega) _ _ _ _ _ _
      · have q1 : decide (c < 1) = false := decide_eq_false q3
        have q4 : ((0 : Nat) : Int) + 1 < c := by omega
        have q2 : decide (((0 : Nat) : Int) + 1 < c) = true := decide_eq_true q4
        clear hcc
        go_wp2
        refine bodyPost_ret (v := (.tuple #[zeroV, .int .i64 3])) ?_ rfl ⟨by rw [unhide hRk], ?_⟩
        · simp [results, Try.f12, go_sem, zeroV, spV, *]
        · exact bset6 hB1 (by omega) _ _ _ _ _ _
  · by_cases hm1 : m = 1
    · subst hm1
      obtain ⟨pg, rfl⟩ := hpa (by omega)
      have cr1 := unhide Hcell pg 0 rfl (by omega)
      have er1 : 0 < 1 → rn s (pB s (lineK s l + (1 - 1))) = rn s (pB s (lineK s l + 0)) := fun _ => rfl
      obtain ⟨R1, hR1⟩ : ∃ R1, rn s (pB s (lineK s l + 0)) = R1 := ⟨_, rfl⟩
      rw [hR1] at cr1
      have hr1 : 0 < 1 → R1 = rn s (pB s (lineK s l + (1 - 1))) := fun _ => hR1.symm
      clear hR1 er1
      by_cases h10 : R1 = 10
      · subst h10
        obtain ⟨hin, hout⟩ := unhide hco (0) 10 0 hr1 (fun h => by omega) rfl
        have Hin := hide hin
        have Hout := hide hout
        clear hin hout hco Hop Hcell hpa hr1
        by_cases hcc : 1 ≤ c ∧ c ≤ ((0 : Nat) : Int) + 1
        · obtain ⟨k, hkN, hRk, hkl, hkc⟩ := unhide Hin hcc
          have q1 : decide (c < 1) = false := decide_eq_false (by omega)
          have q2 : decide (((0 : Nat) : Int) + 1 < c) = false := decide_eq_false (by omega)
          have q3 : ¬ c < 1 := by omega
          have q4 : ¬ ((0 : Nat) : Int) + 1 < c := by omega
          have HRk := hide hRk
          have Hkl := hide hkl
          have Hkc := hide hkc
          clear hcc hRk hkl hkc Hin Hout
          go_wp2_with fail
          refine (unhide hsp _).mono ?_
          rintro e W2 ⟨v2, rfl, ⟨g, cap, rfl, hc⟩, hbW2⟩
          have hB2 := bnext hB1 hbW2
          have b62 := b61.below hbW2
          have hsix := fun k (hk : k ≤ pN s) => sp_six (cap := cap) hc hk
          have Hsix := hide hsix
          obtain ⟨NN, hNN⟩ : ∃ NN, pN s = NN := ⟨_, rfl⟩
          rw [hNN] at hN hkN Hsix ⊢
          clear hc hsix hNN q1 q2 q3 q4 hB1 b61 hbW2
          go_wp2_with fail
          go_loopw [13] (fun iv wr => ∃ i : Nat, i ≤ k ∧ iv = .int .i64 (i : Nat) ∧ wr = W2) (fun iv _ => NN + 1 - (RowKit.intOf iv).toNat)
          case atStart => exact ⟨0, by omega, rfl, rfl⟩
          case round =>
            obtain ⟨i, hik, rfl, rfl⟩ := hrel
            obtain ⟨c0, c1, c2, c3, c4, c5⟩ := unhide Hsix i (by omega)
            obtain ⟨d0, d1, d2, d3, d4, d5, f0, f1, f2, f3, f4, f5⟩ := b62.facts
            have i1 : (i : Int) < ((NN + 1 : Nat) : Int) := by omega
            have i2 : (i : Int) < (NN : Int) + 1 := by omega
            have i3 : (0 : Int) ≤ (i : Int) := by omega
            by_cases hie : i = k
            · have e1 : (pL s i : Int) = l := by rw [hie]; exact unhide Hkl
              have e2 : (pK s i : Int) = c := by rw [hie]; exact unhide Hkc
              have hRi : R = .tuple #[.agg #[.int .i64 (pB s i : Nat), .int .i64 (i : Nat), .int .i64 (pU s i : Nat), .int .i64 (pC s i : Nat), .int .i64 (pL s i : Nat), .int .i64 (pK s i : Nat)], .int .i64 0] := by rw [hie]; exact unhide HRk
              obtain ⟨PL, hPL⟩ : ∃ PL, pL s i = PL := ⟨_, rfl⟩
              obtain ⟨PK, hPK⟩ : ∃ PK, pK s i = PK := ⟨_, rfl⟩
              rw [hPL] at c4 e1 hRi
              rw [hPK] at c5 e2 hRi
              generalize pB s i = v0 at c0 hRi
              generalize pU s i = v2 at c2 hRi
              generalize pC s i = v3 at c3 hRi
              have g1 : ((PL : Int) == l) = true := by rw [beq_iff_eq]; exact e1
              have g2 : ((PK : Int) == c) = true := by rw [beq_iff_eq]; exact e2
              have HRi := hide hRi
              clear hPL hPK hie e1 e2 hRi
              go_wp2
              refine bodyPost_ret (v := .tuple #[.agg #[.int .i64 (v0 : Nat), .int .i64 (i : Nat), .int .i64 (v2 : Nat), .int .i64 (v3 : Nat), .int .i64 (PL : Nat), .int .i64 (PK : Nat)], .int .i64 0]) ?_ rfl ⟨by rw [unhide HRi], ?_⟩
              · simp [results, Try.f12, go_sem, *]
              · exact bset6 hB2 (by omega) _ _ _ _ _ _
            · have hne : ¬ ((pL s i : Int) = l ∧ (pK s i : Int) = c) := fun h => hie (lk_inj s (by have := unhide Hkl; omega) (by have := unhide Hkc; omega))
              have hik2 : i + 1 ≤ k := by omega
              obtain ⟨PL, hPL⟩ : ∃ PL, pL s i = PL := ⟨_, rfl⟩
              obtain ⟨PK, hPK⟩ : ∃ PK, pK s i = PK := ⟨_, rfl⟩
              rw [hPL] at c4 hne
              rw [hPK] at c5 hne
              clear hPL hPK hie
              by_cases e1 : (PL : Int) = l
              · have g1 : ((PL : Int) == l) = true := by rw [beq_iff_eq]; exact e1
                have g2 : ((PK : Int) == c) = false := by rw [beq_eq_false_iff_ne]; exact fun h => hne ⟨e1, h⟩
                clear hne e1
                go_wp2
                go_roundw
                case rel => exact ⟨i + 1, hik2, by go_num, by trivial⟩
                case measure => simp [RowKit.intOf]; omega
              · have g1 : ((PL : Int) == l) = false := by rw [beq_eq_false_iff_ne]; exact e1
                clear hne e1
                go_wp2
                go_roundw
                case rel => exact ⟨i + 1, hik2, by go_num, by trivial⟩
                case measure => simp [RowKit.intOf]; omega
        · have hRk := hide (unhide Hout hcc)
          obtain ⟨d0, d1, d2, d3, d4, d5, f0, f1, f2, f3, f4, f5⟩ := b61.facts
          clear Hin Hout
          by_cases q3 : c < 1
          · have q1 : decide (c < 1) = true := decide_eq_true q3
            clear hcc
            go_wp2
            refine bodyPost_ret (v := (.tuple #[zeroV, .int .i64 3])) ?_ rfl ⟨by rw [unhide hRk], ?_⟩
            · simp [results, Try.f12, go_sem, zeroV, spV, *]
            · exact bset6 hB1 (by omega) _ _ _ _ _ _
          · have q1 : decide (c < 1) = false := decide_eq_false q3
            have q4 : ((0 : Nat) : Int) + 1 < c := by omega
            have q2 : decide (((0 : Nat) : Int) + 1 < c) = true := decide_eq_true q4
            clear hcc
            go_wp2
            refine bodyPost_ret (v := (.tuple #[zeroV, .int .i64 3])) ?_ rfl ⟨by rw [unhide hRk], ?_⟩
            · simp [results, Try.f12, go_sem, zeroV, spV, *]
            · exact bset6 hB1 (by omega) _ _ _ _ _ _
      · by_cases h13 : R1 = 13
        · subst h13
          obtain ⟨hin, hout⟩ := unhide hco (0) 13 0 hr1 (fun h => by omega) rfl
          have Hin := hide hin
          have Hout := hide hout
          clear hin hout hco Hop Hcell hpa hr1
          by_cases hcc : 1 ≤ c ∧ c ≤ ((0 : Nat) : Int) + 1
          · obtain ⟨k, hkN, hRk, hkl, hkc⟩ := unhide Hin hcc
            have q1 : decide (c < 1) = false := decide_eq_false (by omega)
            have q2 : decide (((0 : Nat) : Int) + 1 < c) = false := decide_eq_false (by omega)
            have q3 : ¬ c < 1 := by omega
            have q4 : ¬ ((0 : Nat) : Int) + 1 < c := by omega
            have HRk := hide hRk
            have Hkl := hide hkl
            have Hkc := hide hkc
            clear hcc hRk hkl hkc Hin Hout
            go_wp2_with fail
            refine (unhide hsp _).mono ?_
            rintro e W2 ⟨v2, rfl, ⟨g, cap, rfl, hc⟩, hbW2⟩
            have hB2 := bnext hB1 hbW2
            have b62 := b61.below hbW2
            have hsix := fun k (hk : k ≤ pN s) => sp_six (cap := cap) hc hk
            have Hsix := hide hsix
            obtain ⟨NN, hNN⟩ : ∃ NN, pN s = NN := ⟨_, rfl⟩
            rw [hNN] at hN hkN Hsix ⊢
            clear hc hsix hNN q1 q2 q3 q4 hB1 b61 hbW2
            go_wp2_with fail
            go_loopw [13] (fun iv wr => ∃ i : Nat, i ≤ k ∧ iv = .int .i64 (i : Nat) ∧ wr = W2) (fun iv _ => NN + 1 - (RowKit.intOf iv).toNat)
            case atStart => exact ⟨0, by omega, rfl, rfl⟩
            case round =>
              obtain ⟨i, hik, rfl, rfl⟩ := hrel
              obtain ⟨c0, c1, c2, c3, c4, c5⟩ := unhide Hsix i (by omega)
              obtain ⟨d0, d1, d2, d3, d4, d5, f0, f1, f2, f3, f4, f5⟩ := b62.facts
              have i1 : (i : Int) < ((NN + 1 : Nat) : Int) := by omega
              have i2 : (i : Int) < (NN : Int) + 1 := by omega
              have i3 : (0 : Int) ≤ (i : Int) := by omega
              by_cases hie : i = k
              · have e1 : (pL s i : Int) = l := by rw [hie]; exact unhide Hkl
                have e2 : (pK s i : Int) = c := by rw [hie]; exact unhide Hkc
                have hRi : R = .tuple #[.agg #[.int .i64 (pB s i : Nat), .int .i64 (i : Nat), .int .i64 (pU s i : Nat), .int .i64 (pC s i : Nat), .int .i64 (pL s i : Nat), .int .i64 (pK s i : Nat)], .int .i64 0] := by rw [hie]; exact unhide HRk
                obtain ⟨PL, hPL⟩ : ∃ PL, pL s i = PL := ⟨_, rfl⟩
                obtain ⟨PK, hPK⟩ : ∃ PK, pK s i = PK := ⟨_, rfl⟩
                rw [hPL] at c4 e1 hRi
                rw [hPK] at c5 e2 hRi
                generalize pB s i = v0 at c0 hRi
                generalize pU s i = v2 at c2 hRi
                generalize pC s i = v3 at c3 hRi
                have g1 : ((PL : Int) == l) = true := by rw [beq_iff_eq]; exact e1
                have g2 : ((PK : Int) == c) = true := by rw [beq_iff_eq]; exact e2
                have HRi := hide hRi
                clear hPL hPK hie e1 e2 hRi
                go_wp2
                refine bodyPost_ret (v := .tuple #[.agg #[.int .i64 (v0 : Nat), .int .i64 (i : Nat), .int .i64 (v2 : Nat), .int .i64 (v3 : Nat), .int .i64 (PL : Nat), .int .i64 (PK : Nat)], .int .i64 0]) ?_ rfl ⟨by rw [unhide HRi], ?_⟩
                · simp [results, Try.f12, go_sem, *]
                · exact bset6 hB2 (by omega) _ _ _ _ _ _
              · have hne : ¬ ((pL s i : Int) = l ∧ (pK s i : Int) = c) := fun h => hie (lk_inj s (by have := unhide Hkl; omega) (by have := unhide Hkc; omega))
                have hik2 : i + 1 ≤ k := by omega
                obtain ⟨PL, hPL⟩ : ∃ PL, pL s i = PL := ⟨_, rfl⟩
                obtain ⟨PK, hPK⟩ : ∃ PK, pK s i = PK := ⟨_, rfl⟩
                rw [hPL] at c4 hne
                rw [hPK] at c5 hne
                clear hPL hPK hie
                by_cases e1 : (PL : Int) = l
                · have g1 : ((PL : Int) == l) = true := by rw [beq_iff_eq]; exact e1
                  have g2 : ((PK : Int) == c) = false := by rw [beq_eq_false_iff_ne]; exact fun h => hne ⟨e1, h⟩
                  clear hne e1
                  go_wp2
                  go_roundw
                  case rel => exact ⟨i + 1, hik2, by go_num, by trivial⟩
                  case measure => simp [RowKit.intOf]; omega
                · have g1 : ((PL : Int) == l) = false := by rw [beq_eq_false_iff_ne]; exact e1
                  clear hne e1
                  go_wp2
                  go_roundw
                  case rel => exact ⟨i + 1, hik2, by go_num, by trivial⟩
                  case measure => simp [RowKit.intOf]; omega
          · have hRk := hide (unhide Hout hcc)
            obtain ⟨d0, d1, d2, d3, d4, d5, f0, f1, f2, f3, f4, f5⟩ := b61.facts
            clear Hin Hout
            by_cases q3 : c < 1
            · have q1 : decide (c < 1) = true := decide_eq_true q3
              clear hcc
              go_wp2
              refine bodyPost_ret (v := (.tuple #[zeroV, .int .i64 3])) ?_ rfl ⟨by rw [unhide hRk], ?_⟩
              · simp [results, Try.f12, go_sem, zeroV, spV, *]
              · exact bset6 hB1 (by omega) _ _ _ _ _ _
            · have q1 : decide (c < 1) = false := decide_eq_false q3
              have q4 : ((0 : Nat) : Int) + 1 < c := by omega
              have q2 : decide (((0 : Nat) : Int) + 1 < c) = true := decide_eq_true q4
              clear hcc
              go_wp2
              refine bodyPost_ret (v := (.tuple #[zeroV, .int .i64 3])) ?_ rfl ⟨by rw [unhide hRk], ?_⟩
              · simp [results, Try.f12, go_sem, zeroV, spV, *]
              · exact bset6 hB1 (by omega) _ _ _ _ _ _
        · have hnc : nC 1 R1 0 = 1 := by unfold nC; rw [if_neg (by omega)]
          have g10 : (((R1 : Nat) : Int) == 10) = false := by rw [beq_eq_false_iff_ne]; omega
          have g13 : (((R1 : Nat) : Int) == 13) = false := by rw [beq_eq_false_iff_ne]; omega
          obtain ⟨hin, hout⟩ := unhide hco (1) R1 0 hr1 (fun h => by omega) hnc
          have Hin := hide hin
          have Hout := hide hout
          clear hin hout hco Hop Hcell hpa hr1 hnc
          by_cases hcc : 1 ≤ c ∧ c ≤ ((1 : Nat) : Int) + 1
          · obtain ⟨k, hkN, hRk, hkl, hkc⟩ := unhide Hin hcc
            have q1 : decide (c < 1) = false := decide_eq_false (by omega)
            have q2 : decide (((1 : Nat) : Int) + 1 < c) = false := decide_eq_false (by omega)
            have q3 : ¬ c < 1 := by omega
            have q4 : ¬ ((1 : Nat) : Int) + 1 < c := by omega
            have HRk := hide hRk
            have Hkl := hide hkl
            have Hkc := hide hkc
            clear hcc hRk hkl hkc Hin Hout
            go_wp2_with fail
            refine (unhide hsp _).mono ?_
            rintro e W2 ⟨v2, rfl, ⟨g, cap, rfl, hc⟩, hbW2⟩
            have hB2 := bnext hB1 hbW2
            have b62 := b61.below hbW2
            have hsix := fun k (hk : k ≤ pN s) => sp_six (cap := cap) hc hk
            have Hsix := hide hsix
            obtain ⟨NN, hNN⟩ : ∃ NN, pN s = NN := ⟨_, rfl⟩
            rw [hNN] at hN hkN Hsix ⊢
            clear hc hsix hNN q1 q2 q3 q4 hB1 b61 hbW2
            go_wp2_with fail
            go_loopw [13] (fun iv wr => ∃ i : Nat, i ≤ k ∧ iv = .int .i64 (i : Nat) ∧ wr = W2) (fun iv _ => NN + 1 - (RowKit.intOf iv).toNat)
            case atStart => exact ⟨0, by omega, rfl, rfl⟩
            case round =>
              obtain ⟨i, hik, rfl, rfl⟩ := hrel
              obtain ⟨c0, c1, c2, c3, c4, c5⟩ := unhide Hsix i (by omega)
              obtain ⟨d0, d1, d2, d3, d4, d5, f0, f1, f2, f3, f4, f5⟩ := b62.facts
              have i1 : (i : Int) < ((NN + 1 : Nat) : Int) := by omega
              have i2 : (i : Int) < (NN : Int) + 1 := by omega
              have i3 : (0 : Int) ≤ (i : Int) := by omega
              by_cases hie : i = k
              · have e1 : (pL s i : Int) = l := by rw [hie]; exact unhide Hkl
                have e2 : (pK s i : Int) = c := by rw [hie]; exact unhide Hkc
                have hRi : R = .tuple #[.agg #[.int .i64 (pB s i : Nat), .int .i64 (i : Nat), .int .i64 (pU s i : Nat), .int .i64 (pC s i : Nat), .int .i64 (pL s i : Nat), .int .i64 (pK s i : Nat)], .int .i64 0] := by rw [hie]; exact unhide HRk
                obtain ⟨PL, hPL⟩ : ∃ PL, pL s i = PL := ⟨_, rfl⟩
                obtain ⟨PK, hPK⟩ : ∃ PK, pK s i = PK := ⟨_, rfl⟩
                rw [hPL] at c4 e1 hRi
                rw [hPK] at c5 e2 hRi
                generalize pB s i = v0 at c0 hRi
                generalize pU s i = v2 at c2 hRi
                generalize pC s i = v3 at c3 hRi
                have g1 : ((PL : Int) == l) = true := by rw [beq_iff_eq]; exact e1
                have g2 : ((PK : Int) == c) = true := by rw [beq_iff_eq]; exact e2
                have HRi := hide hRi
                clear hPL hPK hie e1 e2 hRi
                go_wp2
                refine bodyPost_ret (v := .tuple #[.agg #[.int .i64 (v0 : Nat), .int .i64 (i : Nat), .int .i64 (v2 : Nat), .int .i64 (v3 : Nat), .int .i64 (PL : Nat), .int .i64 (PK : Nat)], .int .i64 0]) ?_ rfl ⟨by rw [unhide HRi], ?_⟩
                · simp [results, Try.f12, go_sem, *]
                · exact bset6 hB2 (by omega) _ _ _ _ _ _
              · have hne : ¬ ((pL s i : Int) = l ∧ (pK s i : Int) = c) := fun h => hie (lk_inj s (by have := unhide Hkl; omega) (by have := unhide Hkc; omega))
                have hik2 : i + 1 ≤ k := by omega
                obtain ⟨PL, hPL⟩ : ∃ PL, pL s i = PL := ⟨_, rfl⟩
                obtain ⟨PK, hPK⟩ : ∃ PK, pK s i = PK := ⟨_, rfl⟩
                rw [hPL] at c4 hne
                rw [hPK] at c5 hne
                clear hPL hPK hie
                by_cases e1 : (PL : Int) = l
                · have g1 : ((PL : Int) == l) = true := by rw [beq_iff_eq]; exact e1
                  have g2 : ((PK : Int) == c) = false := by rw [beq_eq_false_iff_ne]; exact fun h => hne ⟨e1, h⟩
                  clear hne e1
                  go_wp2
                  go_roundw
                  case rel => exact ⟨i + 1, hik2, by go_num, by trivial⟩
                  case measure => simp [RowKit.intOf]; omega
                · have g1 : ((PL : Int) == l) = false := by rw [beq_eq_false_iff_ne]; exact e1
                  clear hne e1
                  go_wp2
                  go_roundw
                  case rel => exact ⟨i + 1, hik2, by go_num, by trivial⟩
                  case measure => simp [RowKit.intOf]; omega
          · have hRk := hide (unhide Hout hcc)
            obtain ⟨d0, d1, d2, d3, d4, d5, f0, f1, f2, f3, f4, f5⟩ := b61.facts
            clear Hin Hout
            by_cases q3 : c < 1
            · have q1 : decide (c < 1) = true := decide_eq_true q3
              clear hcc
              go_wp2
              refine bodyPost_ret (v := (.tuple #[zeroV, .int .i64 3])) ?_ rfl ⟨by rw [unhide hRk], ?_⟩
              · simp [results, Try.f12, go_sem, zeroV, spV, *]
              · exact bset6 hB1 (by omega) _ _ _ _ _ _
            · have q1 : decide (c < 1) = false := decide_eq_false q3
              have q4 : ((1 : Nat) : Int) + 1 < c := by omega
              have q2 : decide (((1 : Nat) : Int) + 1 < c) = true := decide_eq_true q4
              clear hcc
              go_wp2
              refine bodyPost_ret (v := (.tuple #[zeroV, .int .i64 3])) ?_ rfl ⟨by rw [unhide hRk], ?_⟩
              · simp [results, Try.f12, go_sem, zeroV, spV, *]
              · exact bset6 hB1 (by omega) _ _ _ _ _ _
    · obtain ⟨r, rfl⟩ : ∃ r, m = r + 2 := ⟨m - 2, by omega⟩
      obtain ⟨pg, rfl⟩ := hpa (by omega)
      have cr1 := unhide Hcell pg (r + 1) rfl (by omega)
      have cr2 := unhide Hcell pg r rfl (by omega)
      obtain ⟨R1, hR1⟩ : ∃ R1, rn s (pB s (lineK s l + (r + 1))) = R1 := ⟨_, rfl⟩
      obtain ⟨R2, hR2⟩ : ∃ R2, rn s (pB s (lineK s l + r)) = R2 := ⟨_, rfl⟩
      rw [hR1] at cr1
      rw [hR2] at cr2
      have hr1 : 0 < r + 2 → R1 = rn s (pB s (lineK s l + (r + 2 - 1))) := fun _ => by rw [show r + 2 - 1 = r + 1 by omega]; exact hR1.symm
      have hr2 : 1 < r + 2 → R2 = rn s (pB s (lineK s l + (r + 2 - 2))) := fun _ => by rw [show r + 2 - 2 = r by omega]; exact hR2.symm
      have a1 : (((r + 2 : Nat) : Int) - 1) = ((r + 1 : Nat) : Int) := by omega
      have a2 : (((r + 1 : Nat) : Int) - 1) = ((r : Nat) : Int) := by omega
      have a3 : ((r : Int) + 2 - 1) = (r : Int) + 1 := by omega
      have a4 : ((r : Int) + 1 - 1) = (r : Int) := by omega
      have a5 : ((r : Int) + 1).toNat = r + 1 := by omega
      have a6 : (r : Int) < (r : Int) + 2 := by omega
      have a7 : (r : Int) + 1 < (r : Int) + 2 := by omega
      have a8 : (0 : Int) ≤ (r : Int) + 1 := by omega
      have a9 : (0 : Int) < (r : Int) + 1 := by omega
      have a10 : (0 : Int) < (r : Int) + 2 := by omega
      clear hR1 hR2
      by_cases h10 : R1 = 10
      · subst h10
        by_cases h2 : R2 = 13
        · subst h2
          have hnc : nC (r + 2) 10 13 = r := by unfold nC; rw [if_pos (by omega), if_pos (by omega)]; omega
          obtain ⟨hin, hout⟩ := unhide hco (r) 10 13 hr1 hr2 hnc
          have Hin := hide hin
          have Hout := hide hout
          clear hin hout hco Hop Hcell hpa hr1 hr2 hnc
          by_cases hcc : 1 ≤ c ∧ c ≤ ((r : Nat) : Int) + 1
          · obtain ⟨k, hkN, hRk, hkl, hkc⟩ := unhide Hin hcc
            have q1 : decide (c < 1) = false := decide_eq_false (by omega)
            have q2 : decide (((r : Nat) : Int) + 1 < c) = false := decide_eq_false (by omega)
            have q3 : ¬ c < 1 := by omega
            have q4 : ¬ ((r : Nat) : Int) + 1 < c := by omega
            have HRk := hide hRk
            have Hkl := hide hkl
            have Hkc := hide hkc
            clear hcc hRk hkl hkc Hin Hout
            go_wp2_with fail
            refine (unhide hsp _).mono ?_
            rintro e W2 ⟨v2, rfl, ⟨g, cap, rfl, hc⟩, hbW2⟩
            have hB2 := bnext hB1 hbW2
            have b62 := b61.below hbW2
            have hsix := fun k (hk : k ≤ pN s) => sp_six (cap := cap) hc hk
            have Hsix := hide hsix
            obtain ⟨NN, hNN⟩ : ∃ NN, pN s = NN := ⟨_, rfl⟩
            rw [hNN] at hN hkN Hsix ⊢
            clear hc hsix hNN q1 q2 q3 q4 hB1 b61 hbW2
            go_wp2_with fail
            go_loopw [13] (fun iv wr => ∃ i : Nat, i ≤ k ∧ iv = .int .i64 (i : Nat) ∧ wr = W2) (fun iv _ => NN + 1 - (RowKit.intOf iv).toNat)
            case atStart => exact ⟨0, by omega, rfl, rfl⟩
            case round =>
              obtain ⟨i, hik, rfl, rfl⟩ := hrel
              obtain ⟨c0, c1, c2, c3, c4, c5⟩ := unhide Hsix i (by omega)
              obtain ⟨d0, d1, d2, d3, d4, d5, f0, f1, f2, f3, f4, f5⟩ := b62.facts
              have i1 : (i : Int) < ((NN + 1 : Nat) : Int) := by omega
              have i2 : (i : Int) < (NN : Int) + 1 := by omega
              have i3 : (0 : Int) ≤ (i : Int) := by omega
              by_cases hie : i = k
              · have e1 : (pL s i : Int) = l := by rw [hie]; exact unhide Hkl
                have e2 : (pK s i : Int) = c := by rw [hie]; exact unhide Hkc
                have hRi : R = .tuple #[.agg #[.int .i64 (pB s i : Nat), .int .i64 (i : Nat), .int .i64 (pU s i : Nat), .int .i64 (pC s i : Nat), .int .i64 (pL s i : Nat), .int .i64 (pK s i : Nat)], .int .i64 0] := by rw [hie]; exact unhide HRk
                obtain ⟨PL, hPL⟩ : ∃ PL, pL s i = PL := ⟨_, rfl⟩
                obtain ⟨PK, hPK⟩ : ∃ PK, pK s i = PK := ⟨_, rfl⟩
                rw [hPL] at c4 e1 hRi
                rw [hPK] at c5 e2 hRi
                generalize pB s i = v0 at c0 hRi
                generalize pU s i = v2 at c2 hRi
                generalize pC s i = v3 at c3 hRi
                have g1 : ((PL : Int) == l) = true := by rw [beq_iff_eq]; exact e1
                have g2 : ((PK : Int) == c) = true := by rw [beq_iff_eq]; exact e2
                have HRi := hide hRi
                clear hPL hPK hie e1 e2 hRi
                go_wp2
                refine bodyPost_ret (v := .tuple #[.agg #[.int .i64 (v0 : Nat), .int .i64 (i : Nat), .int .i64 (v2 : Nat), .int .i64 (v3 : Nat), .int .i64 (PL : Nat), .int .i64 (PK : Nat)], .int .i64 0]) ?_ rfl ⟨by rw [unhide HRi], ?_⟩
                · simp [results, Try.f12, go_sem, *]
                · exact bset6 hB2 (by omega) _ _ _ _ _ _
              · have hne : ¬ ((pL s i : Int) = l ∧ (pK s i : Int) = c) := fun h => hie (lk_inj s (by have := unhide Hkl; omega) (by have := unhide Hkc; omega))
                have hik2 : i + 1 ≤ k := by omega
                obtain ⟨PL, hPL⟩ : ∃ PL, pL s i = PL := ⟨_, rfl⟩
                obtain ⟨PK, hPK⟩ : ∃ PK, pK s i = PK := ⟨_, rfl⟩
                rw [hPL] at c4 hne
                rw [hPK] at c5 hne
                clear hPL hPK hie
                by_cases e1 : (PL : Int) = l
                · have g1 : ((PL : Int) == l) = true := by rw [beq_iff_eq]; exact e1
                  have g2 : ((PK : Int) == c) = false := by rw [beq_eq_false_iff_ne]; exact fun h => hne ⟨e1, h⟩
                  clear hne e1
                  go_wp2
                  go_roundw
                  case rel => exact ⟨i + 1, hik2, by go_num, by trivial⟩
                  case measure => simp [RowKit.intOf]; omega
                · have g1 : ((PL : Int) == l) = false := by rw [beq_eq_false_iff_ne]; exact e1
                  clear hne e1
                  go_wp2
                  go_roundw
                  case rel => exact ⟨i + 1, hik2, by go_num, by trivial⟩
                  case measure => simp [RowKit.intOf]; omega
          · have hRk := hide (unhide Hout hcc)
            obtain ⟨d0, d1, d2, d3, d4, d5, f0, f1, f2, f3, f4, f5⟩ := b61.facts
            clear Hin Hout
            by_cases q3 : c < 1
            · have q1 : decide (c < 1) = true := decide_eq_true q3
              clear hcc
              go_wp2
              refine bodyPost_ret (v := (.tuple #[zeroV, .int .i64 3])) ?_ rfl ⟨by rw [unhide hRk], ?_⟩
              · simp [results, Try.f12, go_sem, zeroV, spV, *]
              · exact bset6 hB1 (by omega) _ _ _ _ _ _
            · have q1 : decide (c < 1) = false := decide_eq_false q3
              have q4 : ((r : Nat) : Int) + 1 < c := by omega
              have q2 : decide (((r : Nat) : Int) + 1 < c) = true := decide_eq_true q4
              clear hcc
              go_wp2
              refine bodyPost_ret (v := (.tuple #[zeroV, .int .i64 3])) ?_ rfl ⟨by rw [unhide hRk], ?_⟩
              · simp [results, Try.f12, go_sem, zeroV, spV, *]
              · exact bset6 hB1 (by omega) _ _ _ _ _ _
        · have hnc : nC (r + 2) 10 R2 = r + 1 := by unfold nC; rw [if_pos (by omega), if_neg (by omega)]; omega
          have g2 : (((R2 : Nat) : Int) == 13) = false := by rw [beq_eq_false_iff_ne]; omega
          obtain ⟨hin, hout⟩ := unhide hco (r + 1) 10 R2 hr1 hr2 hnc
          have Hin := hide hin
          have Hout := hide hout
          clear hin hout hco Hop Hcell hpa hr1 hr2 hnc
          by_cases hcc : 1 ≤ c ∧ c ≤ ((r + 1 : Nat) : Int) + 1
          · obtain ⟨k, hkN, hRk, hkl, hkc⟩ := unhide Hin hcc
            have q1 : decide (c < 1) = false := decide_eq_false (by omega)
            have q2 : decide (((r + 1 : Nat) : Int) + 1 < c) = false := decide_eq_false (by omega)
            have q3 : ¬ c < 1 := by omega
            have q4 : ¬ ((r + 1 : Nat) : Int) + 1 < c := by omega
            have HRk := hide hRk
            have Hkl := hide hkl
            have Hkc := hide hkc
            clear hcc hRk hkl hkc Hin Hout
            go_wp2_with fail
            refine (unhide hsp _).mono ?_
            rintro e W2 ⟨v2, rfl, ⟨g, cap, rfl, hc⟩, hbW2⟩
            have hB2 := bnext hB1 hbW2
            have b62 := b61.below hbW2
            have hsix := fun k (hk : k ≤ pN s) => sp_six (cap := cap) hc hk
            have Hsix := hide hsix
            obtain ⟨NN, hNN⟩ : ∃ NN, pN s = NN := ⟨_, rfl⟩
            rw [hNN] at hN hkN Hsix ⊢
            clear hc hsix hNN q1 q2 q3 q4 hB1 b61 hbW2
            go_wp2_with fail
            go_loopw [13] (fun iv wr => ∃ i : Nat, i ≤ k ∧ iv = .int .i64 (i : Nat) ∧ wr = W2) (fun iv _ => NN + 1 - (RowKit.intOf iv).toNat)
            case atStart => exact ⟨0, by omega, rfl, rfl⟩
            case round =>
              obtain ⟨i, hik, rfl, rfl⟩ := hrel
              obtain ⟨c0, c1, c2, c3, c4, c5⟩ := unhide Hsix i (by omega)
              obtain ⟨d0, d1, d2, d3, d4, d5, f0, f1, f2, f3, f4, f5⟩ := b62.facts
              have i1 : (i : Int) < ((NN + 1 : Nat) : Int) := by omega
              have i2 : (i : Int) < (NN : Int) + 1 := by omega
              have i3 : (0 : Int) ≤ (i : Int) := by omega
              by_cases hie : i = k
              · have e1 : (pL s i : Int) = l := by rw [hie]; exact unhide Hkl
                have e2 : (pK s i : Int) = c := by rw [hie]; exact unhide Hkc
                have hRi : R = .tuple #[.agg #[.int .i64 (pB s i : Nat), .int .i64 (i : Nat), .int .i64 (pU s i : Nat), .int .i64 (pC s i : Nat), .int .i64 (pL s i : Nat), .int .i64 (pK s i : Nat)], .int .i64 0] := by rw [hie]; exact unhide HRk
                obtain ⟨PL, hPL⟩ : ∃ PL, pL s i = PL := ⟨_, rfl⟩
                obtain ⟨PK, hPK⟩ : ∃ PK, pK s i = PK := ⟨_, rfl⟩
                rw [hPL] at c4 e1 hRi
                rw [hPK] at c5 e2 hRi
                generalize pB s i = v0 at c0 hRi
                generalize pU s i = v2 at c2 hRi
                generalize pC s i = v3 at c3 hRi
                have g1 : ((PL : Int) == l) = true := by rw [beq_iff_eq]; exact e1
                have g2 : ((PK : Int) == c) = true := by rw [beq_iff_eq]; exact e2
                have HRi := hide hRi
                clear hPL hPK hie e1 e2 hRi
                go_wp2
                refine bodyPost_ret (v := .tuple #[.agg #[.int .i64 (v0 : Nat), .int .i64 (i : Nat), .int .i64 (v2 : Nat), .int .i64 (v3 : Nat), .int .i64 (PL : Nat), .int .i64 (PK : Nat)], .int .i64 0]) ?_ rfl ⟨by rw [unhide HRi], ?_⟩
                · simp [results, Try.f12, go_sem, *]
                · exact bset6 hB2 (by omega) _ _ _ _ _ _
              · have hne : ¬ ((pL s i : Int) = l ∧ (pK s i : Int) = c) := fun h => hie (lk_inj s (by have := unhide Hkl; omega) (by have := unhide Hkc; omega))
                have hik2 : i + 1 ≤ k := by omega
                obtain ⟨PL, hPL⟩ : ∃ PL, pL s i = PL := ⟨_, rfl⟩
                obtain ⟨PK, hPK⟩ : ∃ PK, pK s i = PK := ⟨_, rfl⟩
                rw [hPL] at c4 hne
                rw [hPK] at c5 hne
                clear hPL hPK hie
                by_cases e1 : (PL : Int) = l
                · have g1 : ((PL : Int) == l) = true := by rw [beq_iff_eq]; exact e1
                  have g2 : ((PK : Int) == c) = false := by rw [beq_eq_false_iff_ne]; exact fun h => hne ⟨e1, h⟩
                  clear hne e1
                  go_wp2
                  go_roundw
                  case rel => exact ⟨i + 1, hik2, by go_num, by trivial⟩
                  case measure => simp [RowKit.intOf]; omega
                · have g1 : ((PL : Int) == l) = false := by rw [beq_eq_false_iff_ne]; exact e1
                  clear hne e1
                  go_wp2
                  go_roundw
                  case rel => exact ⟨i + 1, hik2, by go_num, by trivial⟩
                  case measure => simp [RowKit.intOf]; omega
          · have hRk := hide (unhide Hout hcc)
            obtain ⟨d0, d1, d2, d3, d4, d5, f0, f1, f2, f3, f4, f5⟩ := b61.facts
            clear Hin Hout
            by_cases q3 : c < 1
            · have q1 : decide (c < 1) = true := decide_eq_true q3
              clear hcc
              go_wp2
              refine bodyPost_ret (v := (.tuple #[zeroV, .int .i64 3])) ?_ rfl ⟨by rw [unhide hRk], ?_⟩
              · simp [results, Try.f12, go_sem, zeroV, spV, *]
              · exact bset6 hB1 (by omega) _ _ _ _ _ _
            · have q1 : decide (c < 1) = false := decide_eq_false q3
              have q4 : ((r + 1 : Nat) : Int) + 1 < c := by omega
              have q2 : decide (((r + 1 : Nat) : Int) + 1 < c) = true := decide_eq_true q4
              clear hcc
              go_wp2
              refine bodyPost_ret (v := (.tuple #[zeroV, .int .i64 3])) ?_ rfl ⟨by rw [unhide hRk], ?_⟩
              · simp [results, Try.f12, go_sem, zeroV, spV, *]
              · exact bset6 hB1 (by omega) _ _ _ _ _ _
      · by_cases h13 : R1 = 13
        · subst h13
          have hnc : nC (r + 2) 13 R2 = r + 1 := by unfold nC; rw [if_pos (by omega), if_neg (by omega)]; omega
          obtain ⟨hin, hout⟩ := unhide hco (r + 1) 13 R2 hr1 hr2 hnc
          have Hin := hide hin
          have Hout := hide hout
          clear hin hout hco Hop Hcell hpa hr1 hr2 hnc
          by_cases hcc : 1 ≤ c ∧ c ≤ ((r + 1 : Nat) : Int) + 1
          · obtain ⟨k, hkN, hRk, hkl, hkc⟩ := unhide Hin hcc
            have q1 : decide (c < 1) = false := decide_eq_false (by omega)
            have q2 : decide (((r + 1 : Nat) : Int) + 1 < c) = false := decide_eq_false (by omega)
            have q3 : ¬ c < 1 := by omega
            have q4 : ¬ ((r + 1 : Nat) : Int) + 1 < c := by omega
            have HRk := hide hRk
            have Hkl := hide hkl
            have Hkc := hide hkc
            clear hcc hRk hkl hkc Hin Hout
            go_wp2_with fail
            refine (unhide hsp _).mono ?_
            rintro e W2 ⟨v2, rfl, ⟨g, cap, rfl, hc⟩, hbW2⟩
            have hB2 := bnext hB1 hbW2
            have b62 := b61.below hbW2
            have hsix := fun k (hk : k ≤ pN s) => sp_six (cap := cap) hc hk
            have Hsix := hide hsix
            obtain ⟨NN, hNN⟩ : ∃ NN, pN s = NN := ⟨_, rfl⟩
            rw [hNN] at hN hkN Hsix ⊢
            clear hc hsix hNN q1 q2 q3 q4 hB1 b61 hbW2
            go_wp2_with fail
            go_loopw [13] (fun iv wr => ∃ i : Nat, i ≤ k ∧ iv = .int .i64 (i : Nat) ∧ wr = W2) (fun iv _ => NN + 1 - (RowKit.intOf iv).toNat)
            case atStart => exact ⟨0, by omega, rfl, rfl⟩
            case round =>
              obtain ⟨i, hik, rfl, rfl⟩ := hrel
              obtain ⟨c0, c1, c2, c3, c4, c5⟩ := unhide Hsix i (by omega)
              obtain ⟨d0, d1, d2, d3, d4, d5, f0, f1, f2, f3, f4, f5⟩ := b62.facts
              have i1 : (i : Int) < ((NN + 1 : Nat) : Int) := by omega
              have i2 : (i : Int) < (NN : Int) + 1 := by omega
              have i3 : (0 : Int) ≤ (i : Int) := by omega
              by_cases hie : i = k
              · have e1 : (pL s i : Int) = l := by rw [hie]; exact unhide Hkl
                have e2 : (pK s i : Int) = c := by rw [hie]; exact unhide Hkc
                have hRi : R = .tuple #[.agg #[.int .i64 (pB s i : Nat), .int .i64 (i : Nat), .int .i64 (pU s i : Nat), .int .i64 (pC s i : Nat), .int .i64 (pL s i : Nat), .int .i64 (pK s i : Nat)], .int .i64 0] := by rw [hie]; exact unhide HRk
                obtain ⟨PL, hPL⟩ : ∃ PL, pL s i = PL := ⟨_, rfl⟩
                obtain ⟨PK, hPK⟩ : ∃ PK, pK s i = PK := ⟨_, rfl⟩
                rw [hPL] at c4 e1 hRi
                rw [hPK] at c5 e2 hRi
                generalize pB s i = v0 at c0 hRi
                generalize pU s i = v2 at c2 hRi
                generalize pC s i = v3 at c3 hRi
                have g1 : ((PL : Int) == l) = true := by rw [beq_iff_eq]; exact e1
                have g2 : ((PK : Int) == c) = true := by rw [beq_iff_eq]; exact e2
                have HRi := hide hRi
                clear hPL hPK hie e1 e2 hRi
                go_wp2
                refine bodyPost_ret (v := .tuple #[.agg #[.int .i64 (v0 : Nat), .int .i64 (i : Nat), .int .i64 (v2 : Nat), .int .i64 (v3 : Nat), .int .i64 (PL : Nat), .int .i64 (PK : Nat)], .int .i64 0]) ?_ rfl ⟨by rw [unhide HRi], ?_⟩
                · simp [results, Try.f12, go_sem, *]
                · exact bset6 hB2 (by omega) _ _ _ _ _ _
              · have hne : ¬ ((pL s i : Int) = l ∧ (pK s i : Int) = c) := fun h => hie (lk_inj s (by have := unhide Hkl; omega) (by have := unhide Hkc; omega))
                have hik2 : i + 1 ≤ k := by omega
                obtain ⟨PL, hPL⟩ : ∃ PL, pL s i = PL := ⟨_, rfl⟩
                obtain ⟨PK, hPK⟩ : ∃ PK, pK s i = PK := ⟨_, rfl⟩
                rw [hPL] at c4 hne
                rw [hPK] at c5 hne
                clear hPL hPK hie
                by_cases e1 : (PL : Int) = l
                · have g1 : ((PL : Int) == l) = true := by rw [beq_iff_eq]; exact e1
                  have g2 : ((PK : Int) == c) = false := by rw [beq_eq_false_iff_ne]; exact fun h => hne ⟨e1, h⟩
                  clear hne e1
                  go_wp2
                  go_roundw
                  case rel => exact ⟨i + 1, hik2, by go_num, by trivial⟩
                  case measure => simp [RowKit.intOf]; omega
                · have g1 : ((PL : Int) == l) = false := by rw [beq_eq_false_iff_ne]; exact e1
                  clear hne e1
                  go_wp2
                  go_roundw
                  case rel => exact ⟨i + 1, hik2, by go_num, by trivial⟩
                  case measure => simp [RowKit.intOf]; omega
          · have hRk := hide (unhide Hout hcc)
            obtain ⟨d0, d1, d2, d3, d4, d5, f0, f1, f2, f3, f4, f5⟩ := b61.facts
            clear Hin Hout
            by_cases q3 : c < 1
            · have q1 : decide (c < 1) = true := decide_eq_true q3
              clear hcc
              go_wp2
              refine bodyPost_ret (v := (.tuple #[zeroV, .int .i64 3])) ?_ rfl ⟨by rw [unhide hRk], ?_⟩
              · simp [results, Try.f12, go_sem, zeroV, spV, *]
              · exact bset6 hB1 (by omega) _ _ _ _ _ _
            · have q1 : decide (c < 1) = false := decide_eq_false q3
              have q4 : ((r + 1 : Nat) : Int) + 1 < c := by omega
              have q2 : decide (((r + 1 : Nat) : Int) + 1 < c) = true := decide_eq_true q4
              clear hcc
              go_wp2
              refine bodyPost_ret (v := (.tuple #[zeroV, .int .i64 3])) ?_ rfl ⟨by rw [unhide hRk], ?_⟩
              · simp [results, Try.f12, go_sem, zeroV, spV, *]
              · exact bset6 hB1 (by omega) _ _ _ _ _ _
        · have hnc : nC (r + 2) R1 R2 = r + 2 := by unfold nC; rw [if_neg (by omega)]
          have g10 : (((R1 : Nat) : Int) == 10) = false := by rw [beq_eq_false_iff_ne]; omega
          have g13 : (((R1 : Nat) : Int) == 13) = false := by rw [beq_eq_false_iff_ne]; omega
          obtain ⟨hin, hout⟩ := unhide hco (r + 2) R1 R2 hr1 hr2 hnc
          have Hin := hide hin
          have Hout := hide hout
          clear hin hout hco Hop Hcell hpa hr1 hr2 hnc
          by_cases hcc : 1 ≤ c ∧ c ≤ ((r + 2 : Nat) : Int) + 1
          · obtain ⟨k, hkN, hRk, hkl, hkc⟩ := unhide Hin hcc
            have q1 : decide (c < 1) = false := decide_eq_false (by omega)
            have q2 : decide (((r + 2 : Nat) : Int) + 1 < c) = false := decide_eq_false (by omega)
            have q3 : ¬ c < 1 := by omega
            have q4 : ¬ ((r + 2 : Nat) : Int) + 1 < c := by omega
            have HRk := hide hRk
            have Hkl := hide hkl
            have Hkc := hide hkc
            clear hcc hRk hkl hkc Hin Hout
            go_wp2_with fail
            refine (unhide hsp _).mono ?_
            rintro e W2 ⟨v2, rfl, ⟨g, cap, rfl, hc⟩, hbW2⟩
            have hB2 := bnext hB1 hbW2
            have b62 := b61.below hbW2
            have hsix := fun k (hk : k ≤ pN s) => sp_six (cap := cap) hc hk
            have Hsix := hide hsix
            obtain ⟨NN, hNN⟩ : ∃ NN, pN s = NN := ⟨_, rfl⟩
            rw [hNN] at hN hkN Hsix ⊢
            clear hc hsix hNN q1 q2 q3 q4 hB1 b61 hbW2
            go_wp2_with fail
            go_loopw [13] (fun iv wr => ∃ i : Nat, i ≤ k ∧ iv = .int .i64 (i : Nat) ∧ wr = W2) (fun iv _ => NN + 1 - (RowKit.intOf iv).toNat)
            case atStart => exact ⟨0, by omega, rfl, rfl⟩
            case round =>
              obtain ⟨i, hik, rfl, rfl⟩ := hrel
              obtain ⟨c0, c1, c2, c3, c4, c5⟩ := unhide Hsix i (by omega)
              obtain ⟨d0, d1, d2, d3, d4, d5, f0, f1, f2, f3, f4, f5⟩ := b62.facts
              have i1 : (i : Int) < ((NN + 1 : Nat) : Int) := by omega
              have i2 : (i : Int) < (NN : Int) + 1 := by omega
              have i3 : (0 : Int) ≤ (i : Int) := by omega
              by_cases hie : i = k
              · have e1 : (pL s i : Int) = l := by rw [hie]; exact unhide Hkl
                have e2 : (pK s i : Int) = c := by rw [hie]; exact unhide Hkc
                have hRi : R = .tuple #[.agg #[.int .i64 (pB s i : Nat), .int .i64 (i : Nat), .int .i64 (pU s i : Nat), .int .i64 (pC s i : Nat), .int .i64 (pL s i : Nat), .int .i64 (pK s i : Nat)], .int .i64 0] := by rw [hie]; exact unhide HRk
                obtain ⟨PL, hPL⟩ : ∃ PL, pL s i = PL := ⟨_, rfl⟩
                obtain ⟨PK, hPK⟩ : ∃ PK, pK s i = PK := ⟨_, rfl⟩
                rw [hPL] at c4 e1 hRi
                rw [hPK] at c5 e2 hRi
                generalize pB s i = v0 at c0 hRi
                generalize pU s i = v2 at c2 hRi
                generalize pC s i = v3 at c3 hRi
                have g1 : ((PL : Int) == l) = true := by rw [beq_iff_eq]; exact e1
                have g2 : ((PK : Int) == c) = true := by rw [beq_iff_eq]; exact e2
                have HRi := hide hRi
                clear hPL hPK hie e1 e2 hRi
                go_wp2
                refine bodyPost_ret (v := .tuple #[.agg #[.int .i64 (v0 : Nat), .int .i64 (i : Nat), .int .i64 (v2 : Nat), .int .i64 (v3 : Nat), .int .i64 (PL : Nat), .int .i64 (PK : Nat)], .int .i64 0]) ?_ rfl ⟨by rw [unhide HRi], ?_⟩
                · simp [results, Try.f12, go_sem, *]
                · exact bset6 hB2 (by omega) _ _ _ _ _ _
              · have hne : ¬ ((pL s i : Int) = l ∧ (pK s i : Int) = c) := fun h => hie (lk_inj s (by have := unhide Hkl; omega) (by have := unhide Hkc; omega))
                have hik2 : i + 1 ≤ k := by omega
                obtain ⟨PL, hPL⟩ : ∃ PL, pL s i = PL := ⟨_, rfl⟩
                obtain ⟨PK, hPK⟩ : ∃ PK, pK s i = PK := ⟨_, rfl⟩
                rw [hPL] at c4 hne
                rw [hPK] at c5 hne
                clear hPL hPK hie
                by_cases e1 : (PL : Int) = l
                · have g1 : ((PL : Int) == l) = true := by rw [beq_iff_eq]; exact e1
                  have g2 : ((PK : Int) == c) = false := by rw [beq_eq_false_iff_ne]; exact fun h => hne ⟨e1, h⟩
                  clear hne e1
                  go_wp2
                  go_roundw
                  case rel => exact ⟨i + 1, hik2, by go_num, by trivial⟩
                  case measure => simp [RowKit.intOf]; omega
                · have g1 : ((PL : Int) == l) = false := by rw [beq_eq_false_iff_ne]; exact e1
                  clear hne e1
                  go_wp2
                  go_roundw
                  case rel => exact ⟨i + 1, hik2, by go_num, by trivial⟩
                  case measure => simp [RowKit.intOf]; omega
          · have hRk := hide (unhide Hout hcc)
            obtain ⟨d0, d1, d2, d3, d4, d5, f0, f1, f2, f3, f4, f5⟩ := b61.facts
            clear Hin Hout
            by_cases q3 : c < 1
            · have q1 : decide (c < 1) = true := decide_eq_true q3
              clear hcc
              go_wp2
              refine bodyPost_ret (v := (.tuple #[zeroV, .int .i64 3])) ?_ rfl ⟨by rw [unhide hRk], ?_⟩
              · simp [results, Try.f12, go_sem, zeroV, spV, *]
              · exact bset6 hB1 (by omega) _ _ _ _ _ _
            · have q1 : decide (c < 1) = false := decide_eq_false q3
              have q4 : ((r + 2 : Nat) : Int) + 1 < c := by omega
              have q2 : decide (((r + 2 : Nat) : Int) + 1 < c) = true := decide_eq_true q4
              clear hcc
              go_wp2
              refine bodyPost_ret (v := (.tuple #[zeroV, .int .i64 3])) ?_ rfl ⟨by rw [unhide hRk], ?_⟩
              · simp [results, Try.f12, go_sem, zeroV, spV, *]
              · exact bset6 hB1 (by omega) _ _ _ _ _ _

theorem refCell_in (s : ByteArray) (l c : Int) (hs : s.size ≤ 1000000) (w : World) :
    Calls Try.prog 12 #[.string s, .int .i64 l, .int .i64 c] w fun e w' => e = .returned (cellV s l c) ∧ Below w.heap.size w w' := by
  by_cases h : l < 1 ∨ (pL s (pN s) : Nat) < l
  · unfold cellV
    rw [cell_noline h c, if_neg (by decide)]
    exact refCell_no s l c hs h w
  · exact refCell_yes s l c hs (by omega) (by omega) w

end Go.Proofs.Ytjgkkkfonioplaa
