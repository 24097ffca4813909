/-
  The scanner's bare word.
-/
import Derived.Test.YtkndjbmlkfpfoaaGreatDoorZShelf2ToSc4
import Derived.WalkMore

set_option linter.unusedSimpArgs false
set_option linter.unusedVariables false
namespace Go.Proofs.YtkndjbmlkfpfoaaGreatDoor
open Go.RowKit Go.Lib

/-- where a bare word ends, or what offends in it -/
def bwF (s : ByteArray) : Nat → Nat → Nat × Nat
  | 0, _ => (s.size, 0)
  | f + 1, i => if ¬ i < s.size then (s.size, 0) else if isWe (by_ s i) = true then (i, 0) else if rn s i = 34 then (i, 18) else if rawB s i = true then (i, 2) else bwF s f (i + wd s i)
def bwA (s : ByteArray) (i : Nat) : Nat × Nat := bwF s (s.size - i) i
theorem bwF_fuel (s : ByteArray) : ∀ (f g i : Nat), s.size - i ≤ f → s.size - i ≤ g → bwF s f i = bwF s g i
  | 0, 0, _, _, _ => rfl
  | 0, g + 1, i, h, _ => by
    show _ = bwF s (g + 1) i
    unfold bwF
    rw [if_pos (by omega)]
  | f + 1, 0, i, _, h => by
    show bwF s (f + 1) i = _
    unfold bwF
    rw [if_pos (by omega)]
  | f + 1, g + 1, i, h, h' => by
    unfold bwF
    by_cases hi : i < s.size
    · have := wd_pos s i hi
      rw [bwF_fuel s f g (i + wd s i) (by omega) (by omega)]
    · rw [if_pos hi, if_pos hi]
theorem bwA_step (s : ByteArray) (i : Nat) (h : i < s.size) : bwA s i = if isWe (by_ s i) = true then (i, 0) else if rn s i = 34 then (i, 18) else if rawB s i = true then (i, 2) else bwA s (i + wd s i) := by
  have hw := wd_pos s i h
  unfold bwA
  obtain ⟨n, hn⟩ : ∃ n, s.size - i = n + 1 := ⟨s.size - i - 1, by omega⟩
  rw [hn]
  show bwF s (n + 1) i = _
  conv => lhs; unfold bwF
  rw [if_neg (by omega), bwF_fuel s n (s.size - (i + wd s i)) (i + wd s i) (by omega) (by omega)]
theorem bwA_end (s : ByteArray) (i : Nat) (h : ¬ i < s.size) : bwA s i = (s.size, 0) := by
  unfold bwA
  rw [show s.size - i = 0 by omega]
  rfl
theorem bwA_bounds (s : ByteArray) : ∀ (f i : Nat), s.size - i ≤ f → i ≤ s.size → i ≤ (bwA s i).1 ∧ (bwA s i).1 ≤ s.size
  | f, i, hf, hi => by
    by_cases h : i < s.size
    · have hw := wd_pos s i h
      have hw2 := wd_le s i h
      rw [bwA_step s i h]
      split
      · exact ⟨Nat.le_refl _, hi⟩
      · split
        · exact ⟨Nat.le_refl _, hi⟩
        · split
          · exact ⟨Nat.le_refl _, hi⟩
          · match f, hf with
            | 0, hf => omega
            | f + 1, hf =>
              have := bwA_bounds s f (i + wd s i) (by omega) (by omega)
              omega
    · rw [bwA_end s i h]; exact ⟨hi, Nat.le_refl _⟩

/-- the word that begins at a byte -/
def bwW (s : ByteArray) (b : Nat) : Wd :=
  if (bwA s b).2 ≠ 0 then ⟨0, ⟨#[]⟩, 0, (bwA s b).1, 0, (bwA s b).2⟩
  else if bgN (s.extract b (bwA s b).1) = false then ⟨1, s.extract b (bwA s b).1, 0, b, (bwA s b).1, 0⟩
  else match decN (s.extract b (bwA s b).1) with
    | none => ⟨0, ⟨#[]⟩, 0, b, 0, 6⟩
    | some n => ⟨3, ⟨#[]⟩, n, b, (bwA s b).1, 0⟩

set_option maxRecDepth 100000 in
set_option maxHeartbeats 8000000 in
theorem bareWord_in (s : ByteArray) (hs : s.size ≤ 1000000000) (b : Nat) (hb : b < s.size) (w : World) (hL : Lw w) :
    Calls Tryz.prog 57 #[.string s, .int .i64 (b : Int)] w fun e w' => e = .returned (bwW s b).tup ∧ Below w.heap.size w w' := by
  have hsm : s.size ≤ maxLen := by unfold maxLen; omega
  have e1 : (w.alloc (.cells #[.int .i64 0, .string ⟨#[]⟩, .int .i64 0, .int .i64 0, .int .i64 0] 73)).heap.size = w.heap.size + 1 := by simp
  have X0 := hide (Box5.new w (.int .i64 0) (.string ⟨#[]⟩) (.int .i64 0) (.int .i64 0) (.int .i64 0))
  have B0 := hide ((Below.refl w.heap.size w).alloc (Nat.le_refl _) (.cells #[.int .i64 0, .string ⟨#[]⟩, .int .i64 0, .int .i64 0, .int .i64 0] 73))
  have HL := hide hL
  have i0 : (b : Int) ≤ (s.size : Int) := by omega
  have i00 : (0 : Int) ≤ (b : Int) := by omega
  have hbd := hide (bwA_bounds s _ b (Nat.le_refl _) (by omega))
  obtain ⟨X, hX⟩ : ∃ X, bwW s b = X := ⟨_, rfl⟩
  rw [hX]
  unfold bwW at hX
  obtain ⟨A, hA⟩ : ∃ A, bwA s b = A := ⟨_, rfl⟩
  rw [hA] at hX hbd
  have HX := hide hX
  have HA := hide hA
  clear hX hA hL
  go_enter Tryz.func57, Tryz.ntmps57
  go_wp2
  go_step3
  go_wp2
  go_step3
  go_wp2
  obtain ⟨W0, hW0⟩ : ∃ W0, w.alloc (.cells #[.int .i64 0, .string ⟨#[]⟩, .int .i64 0, .int .i64 0, .int .i64 0] 73) = W0 := ⟨_, rfl⟩
  rw [hW0] at e1 X0 B0 ⊢
  clear hW0
  have Q0 := hide (show (W0.iter (frS s b) 0).heap[W0.heap.size]? = some (.stringIter (frS s b) 0) ∧ Below (w.heap.size + 1) W0 (W0.iter (frS s b) 0) from ⟨World.iter_heap W0 (frS s b) 0, (Below.refl _ W0).alloc (by omega) _⟩)
  have hus : (frS s b).size = s.size - b := frS_size s b
  obtain ⟨u, hu⟩ : ∃ u, s.extract b s.size = u := ⟨_, rfl⟩
  have hu' : frS s b = u := hu
  rw [hu'] at Q0 hus
  rw [hu]
  have Hu := hide hu'
  obtain ⟨R, hR⟩ : ∃ R, w.heap.size + 1 = R := ⟨_, rfl⟩
  rw [e1] at Q0
  rw [hR] at Q0 ⊢
  clear hu hu'
  go_loopw [7] (fun z wr => z = .int .i64 (s.size : Int) ∧ ∃ (pos : Nat), pos ≤ u.size ∧ Hid (bwA s (b + pos) = A ∧ wr.iterPos R = pos ∧ wr.heap[R]? = some (.stringIter u pos) ∧ Below R W0 wr)) (fun _ wr => u.size - wr.iterPos R)
  case atStart => exact ⟨rfl, 0, Nat.zero_le _, hide ⟨unhide HA, by simp [World.iterPos, (unhide Q0).1], (unhide Q0).1, (unhide Q0).2⟩⟩
  case round =>
    obtain ⟨rfl, pos, hpu, H⟩ := hrel
    by_cases hp : pos < u.size
    · have hq : b + pos < s.size := by omega
      have hrn : rn u pos = rn s (b + pos) := by rw [← unhide Hu]; exact rn_suf s b pos hq
      have hwd : wd u pos = wd s (b + pos) := by rw [← unhide Hu]; exact wd_suf s b pos hq
      have hnx : ∀ ty, (Instr.next (.pointer (some ⟨R, 0, none⟩)) true ty).run Tryz.prog wr = .ok (.tuple #[.bool true, .int .i64 (pos : Int), .int .i32 (rn s (b + pos) : Nat)]) (wr.iterAt R u (pos + wd s (b + pos))) := fun ty => by
        rw [← hrn, ← hwd]; exact run_next_any_at wr R u pos ty (unhide H).2.2.1 hp
      have H1 := hide (show (wr.iterAt R u (pos + wd s (b + pos))).iterPos R = pos + wd s (b + pos) ∧ (wr.iterAt R u (pos + wd s (b + pos))).heap[R]? = some (.stringIter u (pos + wd s (b + pos))) ∧ Below R W0 (wr.iterAt R u (pos + wd s (b + pos))) from by
        have h1 := iterAt_heap wr R u pos (pos + wd s (b + pos)) (unhide H).2.2.1
        exact ⟨by simp [World.iterPos, h1], h1, below_iterAt (unhide H).2.2.2 (Nat.le_refl _) u _⟩)
      have hw1 := wd_pos s (b + pos) hq
      have hw2 := wd_le s (b + pos) hq
      have hst := (bwA_step s (b + pos) hq).symm.trans (unhide H).1
      have gi := by_get s (b + pos) hq
      have hew := fun W => hide (endsWord_in (by_ s (b + pos)) W)
      have hraw := fun W => hide (raw_in s (b + pos) W hsm hq)
      obtain ⟨V0, hV0⟩ : ∃ V, wr.iterAt R u (pos + wd s (b + pos)) = V := ⟨_, rfl⟩
      rw [hV0] at hnx H1
      obtain ⟨a, ha⟩ : ∃ a, b + pos = a := ⟨_, rfl⟩
      have hai : (b : Int) + (pos : Int) = (a : Int) := by omega
      simp only [ha] at hq hnx H1 hw1 hw2 hst gi hew hraw
      have k1 : (a : Int) < (s.size : Int) := by omega
      have k2 : (0 : Int) ≤ (a : Int) := by omega
      have HP := hide (unhide H).2.1
      clear H hV0 hrn hwd
      cases hwe : isWe (by_ s a) with
      | true =>
        rw [hwe] at hew
        rw [if_pos hwe] at hst
        have HA2 := hide hst
        clear hst hwe hraw
        go_wp2_with fail
        refine (unhide (hew _)).mono ?_
        rintro e V' ⟨rfl, rfl⟩
        have k3 : (b : Int) ≤ (a : Int) := by omega
        have k4 : (a : Int) ≤ (s.size : Int) := by omega
        go_wp2_with fail
        have HX2 := hide (show (if bgN (s.extract b a) = false then (⟨1, (s.extract b a), 0, b, a, 0⟩ : Wd) else match decN (s.extract b a) with | none => ⟨0, ⟨#[]⟩, 0, b, 0, 6⟩ | some n => ⟨3, ⟨#[]⟩, n, b, a, 0⟩) = X by have h := unhide HX; rw [← unhide HA2, if_neg (by simp)] at h; exact h)
        have hTz : (s.extract b a).size ≤ 1000000000 := by rw [ByteArray.size_extract]; omega
        have hVs : R ≤ V0.heap.size := by have := ((unhide H1).2.2).size; omega
        have BA := hide ((((unhide H1).2.2).alloc hVs (.cells #[.int .i64 1, .string (s.extract b a), .int .i64 0, .int .i64 (b : Int), .int .i64 0] 73)))
        have N0 := hide (show (V0.alloc (.cells #[.int .i64 1, .string (s.extract b a), .int .i64 0, .int .i64 (b : Int), .int .i64 0] 73)).heap[V0.heap.size]? = some (.cells #[.int .i64 1, .string (s.extract b a), .int .i64 0, .int .i64 (b : Int), .int .i64 0] 73 (0, 0)) from by show (V0.heap.push _)[V0.heap.size]? = _; simp)
        have hNs : V0.heap.size ≤ (V0.alloc (.cells #[.int .i64 1, .string (s.extract b a), .int .i64 0, .int .i64 (b : Int), .int .i64 0] 73)).heap.size := by simp
        obtain ⟨Vn, hVn⟩ : ∃ Vn, V0.alloc (.cells #[.int .i64 1, .string (s.extract b a), .int .i64 0, .int .i64 (b : Int), .int .i64 0] 73) = Vn := ⟨_, rfl⟩
        rw [hVn] at BA N0 hNs ⊢
        clear hVn
        obtain ⟨T, hT⟩ : ∃ T, (s.extract b a) = T := ⟨_, rfl⟩
        rw [hT] at HX2 N0 hTz ⊢
        clear hT
        obtain ⟨N, hN⟩ : ∃ N, V0.heap.size = N := ⟨_, rfl⟩
        rw [hN] at N0 hNs hVs ⊢
        clear hN
        have BN := hide ((unhide B0).trans ((unhide BA).mono (by omega)))
        have X1 := hide ((unhide X0).below (unhide BA) (by omega))
        have LN := hide ((unhide HL).below (unhide BN))
        refine (beginsNumber_in T hTz Vn).mono ?_
        rintro e V' ⟨rfl, rfl⟩
        clear X0 B0 Q0 HX BA
        cases hbg : bgN T with
        | false =>
          have HX3 := hide (show (⟨1, T, 0, b, a, 0⟩ : Wd) = X by have h := unhide HX2; rw [if_pos hbg] at h; exact h)
          have B3 := BN
          have c0 : Vn.cell? ⟨N, 0, none⟩ = some (.int .i64 1) := by simp [World.cell?, unhide N0]
          have c1 : Vn.cell? ⟨N, 1, none⟩ = some (.string T) := by simp [World.cell?, unhide N0]
          have c2 : Vn.cell? ⟨N, 2, none⟩ = some (.int .i64 0) := by simp [World.cell?, unhide N0]
          have c3 : Vn.cell? ⟨N, 3, none⟩ = some (.int .i64 (b : Int)) := by simp [World.cell?, unhide N0]
          have c4 : Vn.cell? ⟨N, 4, none⟩ = some (.int .i64 0) := by simp [World.cell?, unhide N0]
          obtain ⟨⟨v0, q0⟩, ⟨v1, q1⟩, ⟨v2, q2⟩, ⟨v3, q3⟩, ⟨v4, q4⟩, f0, f1, f2, f3, f4⟩ := (unhide X1).facts
          clear hbg HX2 N0 X1 LN
          go_wp2
          first | rw [Exit.noGoto_ret] | skip
          refine bodyPost_ret (v := .tuple #[wV 1 T 0 b 0, .int .i64 (a : Int), .int .i64 0]) ?_ rfl ⟨by rw [← unhide HX3]; rfl, ?_⟩
          · simp [results, Tryz.f57, go_sem, wV, *]
          · exact (((((unhide B3).setCell (Nat.le_refl _) _).setCell (Nat.le_refl _) _).setCell (Nat.le_refl _) _).setCell (Nat.le_refl _) _).setCell (Nat.le_refl _) _
        | true =>
          have c1 : Vn.cell? ⟨N, 1, none⟩ = some (.string T) := by simp [World.cell?, unhide N0]
          have hdc := hide (decimal_in T hTz Vn (unhide LN))
          have HX4 := hide (show (match decN T with | none => (⟨0, ⟨#[]⟩, 0, b, 0, 6⟩ : Wd) | some n => ⟨3, ⟨#[]⟩, n, b, a, 0⟩) = X by have h := unhide HX2; rw [if_neg (by rw [hbg]; simp)] at h; exact h)
          clear hbg HX2 N0 LN
          cases hd : decN T with
          | none =>
            rw [hd] at hdc HX4
            have HX3 := hide (show (⟨0, ⟨#[]⟩, 0, b, 0, 6⟩ : Wd) = X from unhide HX4)
            clear hd HX4
            go_wp2_with fail
            refine (unhide hdc).mono ?_
            rintro e Vd ⟨rfl, bd⟩
            have B3 := hide ((unhide BN).trans (bd.mono (unhide BN).size))
            have X2 := (unhide X1).below bd (by omega)
            obtain ⟨⟨v0, q0⟩, ⟨v1, q1⟩, ⟨v2, q2⟩, ⟨v3, q3⟩, ⟨v4, q4⟩, f0, f1, f2, f3, f4⟩ := X2.facts
            clear X1 X2 bd hdc BN c1
            go_wp2
            first | rw [Exit.noGoto_ret] | skip
            refine bodyPost_ret (v := .tuple #[wV 0 ⟨#[]⟩ 0 b 0, .int .i64 0, .int .i64 6]) ?_ rfl ⟨by rw [← unhide HX3]; rfl, ?_⟩
            · simp [results, Tryz.f57, go_sem, wV, *]
            · exact (((((unhide B3).setCell (Nat.le_refl _) _).setCell (Nat.le_refl _) _).setCell (Nat.le_refl _) _).setCell (Nat.le_refl _) _).setCell (Nat.le_refl _) _
          | some n =>
            rw [hd] at hdc HX4
            have HX3 := hide (show (⟨3, ⟨#[]⟩, n, b, a, 0⟩ : Wd) = X from unhide HX4)
            clear hd HX4
            go_wp2_with fail
            refine (unhide hdc).mono ?_
            rintro e Vd ⟨rfl, bd⟩
            have B3 := hide ((unhide BN).trans (bd.mono (unhide BN).size))
            have X2 := (unhide X1).below bd (by omega)
            obtain ⟨⟨v0, q0⟩, ⟨v1, q1⟩, ⟨v2, q2⟩, ⟨v3, q3⟩, ⟨v4, q4⟩, f0, f1, f2, f3, f4⟩ := X2.facts
            clear X1 X2 bd hdc BN c1
            go_wp2
            first | rw [Exit.noGoto_ret] | skip
            refine bodyPost_ret (v := .tuple #[wV 3 ⟨#[]⟩ n b 0, .int .i64 (a : Int), .int .i64 0]) ?_ rfl ⟨by rw [← unhide HX3]; rfl, ?_⟩
            · simp [results, Tryz.f57, go_sem, wV, *]
            · exact (((((unhide B3).setCell (Nat.le_refl _) _).setCell (Nat.le_refl _) _).setCell (Nat.le_refl _) _).setCell (Nat.le_refl _) _).setCell (Nat.le_refl _) _
      | false =>
        rw [hwe] at hew
        rw [if_neg (by rw [hwe]; simp)] at hst
        clear hwe
        by_cases h34 : rn s a = 34
        · have j1 : (((rn s a : Nat) : Int) == 34) = true := by rw [h34]; rfl
          rw [if_pos h34] at hst
          subst hst
          have HX2 := hide (unhide HX)
          have X1 := (unhide X0).below (unhide H1).2.2 (by omega)
          obtain ⟨⟨v0, q0⟩, ⟨v1, q1⟩, ⟨v2, q2⟩, ⟨v3, q3⟩, ⟨v4, q4⟩, f0, f1, f2, f3, f4⟩ := X1.facts
          have B1 := hide ((unhide B0).trans ((unhide H1).2.2.mono (by omega)))
          clear X1 H1 X0 B0 Q0 HX
          clear hraw h34
          go_wp2_with fail
          refine (unhide (hew _)).mono ?_
          rintro e V' ⟨rfl, rfl⟩
          go_wp2
          first | rw [Exit.noGoto_ret] | skip
          refine bodyPost_ret (v := .tuple #[wV 0 ⟨#[]⟩ 0 a 0, .int .i64 0, .int .i64 18]) ?_ rfl ⟨by rw [← unhide HX2, if_pos (by simp)]; rfl, ?_⟩
          · simp [results, Tryz.f57, go_sem, wV, *]
          · exact (((((unhide B1).setCell (Nat.le_refl _) _).setCell (Nat.le_refl _) _).setCell (Nat.le_refl _) _).setCell (Nat.le_refl _) _).setCell (Nat.le_refl _) _
        · have j1 : (((rn s a : Nat) : Int) == 34) = false := by rw [beq_eq_false_iff_ne]; omega
          rw [if_neg h34] at hst
          cases hrw : rawB s a with
          | true =>
            rw [hrw] at hraw
            rw [if_pos hrw] at hst
            subst hst
            have HX2 := hide (unhide HX)
            have X1 := (unhide X0).below (unhide H1).2.2 (by omega)
            obtain ⟨⟨v0, q0⟩, ⟨v1, q1⟩, ⟨v2, q2⟩, ⟨v3, q3⟩, ⟨v4, q4⟩, f0, f1, f2, f3, f4⟩ := X1.facts
            have B1 := hide ((unhide B0).trans ((unhide H1).2.2.mono (by omega)))
            clear X1 H1 X0 B0 Q0 HX
            clear h34 hrw
            go_wp2_with fail
            refine (unhide (hew _)).mono ?_
            rintro e V' ⟨rfl, rfl⟩
            go_wp2_with fail
            refine (unhide (hraw _)).mono ?_
            rintro e V' ⟨rfl, rfl⟩
            go_wp2
            first | rw [Exit.noGoto_ret] | skip
            refine bodyPost_ret (v := .tuple #[wV 0 ⟨#[]⟩ 0 a 0, .int .i64 0, .int .i64 2]) ?_ rfl ⟨by rw [← unhide HX2, if_pos (by simp)]; rfl, ?_⟩
            · simp [results, Tryz.f57, go_sem, wV, *]
            · exact (((((unhide B1).setCell (Nat.le_refl _) _).setCell (Nat.le_refl _) _).setCell (Nat.le_refl _) _).setCell (Nat.le_refl _) _).setCell (Nat.le_refl _) _
          | false =>
            rw [hrw] at hraw
            rw [if_neg (by rw [hrw]; simp)] at hst
            have HA2 := hide hst
            clear hst h34 hrw
            go_wp2_with fail
            refine (unhide (hew _)).mono ?_
            rintro e V' ⟨rfl, rfl⟩
            go_wp2_with fail
            refine (unhide (hraw _)).mono ?_
            rintro e V' ⟨rfl, rfl⟩
            go_wp2
            go_roundw
            case rel => exact ⟨rfl, pos + wd s a, by omega, hide ⟨by rw [← unhide HA2, ← ha]; congr 1; omega, (unhide H1).1, (unhide H1).2.1, (unhide H1).2.2⟩⟩
            case measure => rw [unhide HP, (unhide H1).1]; omega
    · have hnx : ∀ ty, (Instr.next (.pointer (some ⟨R, 0, none⟩)) true ty).run Tryz.prog wr = .ok (.tuple #[.bool false]) wr := fun ty => run_next_end_at wr R u pos ty (unhide H).2.2.1 hp
      have HA2 := hide ((bwA_end s (b + pos) (by omega)).symm.trans (unhide H).1)
      have H1 := hide (unhide H).2.2.2
      clear H
      have k4 : (s.size : Int) ≤ (s.size : Int) := by omega
      go_wp2_with fail
      have HX2 := hide (show (if bgN (s.extract b s.size) = false then (⟨1, (s.extract b s.size), 0, b, s.size, 0⟩ : Wd) else match decN (s.extract b s.size) with | none => ⟨0, ⟨#[]⟩, 0, b, 0, 6⟩ | some n => ⟨3, ⟨#[]⟩, n, b, s.size, 0⟩) = X by have h := unhide HX; rw [← unhide HA2, if_neg (by simp)] at h; exact h)
      have hTz : (s.extract b s.size).size ≤ 1000000000 := by rw [ByteArray.size_extract]; omega
      have hVs : R ≤ wr.heap.size := by have := (unhide H1).size; omega
      have BA := hide (((unhide H1).alloc hVs (.cells #[.int .i64 1, .string (s.extract b s.size), .int .i64 0, .int .i64 (b : Int), .int .i64 0] 73)))
      have N0 := hide (show (wr.alloc (.cells #[.int .i64 1, .string (s.extract b s.size), .int .i64 0, .int .i64 (b : Int), .int .i64 0] 73)).heap[wr.heap.size]? = some (.cells #[.int .i64 1, .string (s.extract b s.size), .int .i64 0, .int .i64 (b : Int), .int .i64 0] 73 (0, 0)) from by show (wr.heap.push _)[wr.heap.size]? = _; simp)
      have hNs : wr.heap.size ≤ (wr.alloc (.cells #[.int .i64 1, .string (s.extract b s.size), .int .i64 0, .int .i64 (b : Int), .int .i64 0] 73)).heap.size := by simp
      obtain ⟨Vn, hVn⟩ : ∃ Vn, wr.alloc (.cells #[.int .i64 1, .string (s.extract b s.size), .int .i64 0, .int .i64 (b : Int), .int .i64 0] 73) = Vn := ⟨_, rfl⟩
      rw [hVn] at BA N0 hNs ⊢
      clear hVn
      obtain ⟨T, hT⟩ : ∃ T, (s.extract b s.size) = T := ⟨_, rfl⟩
      rw [hT] at HX2 N0 hTz ⊢
      clear hT
      obtain ⟨N, hN⟩ : ∃ N, wr.heap.size = N := ⟨_, rfl⟩
      rw [hN] at N0 hNs hVs ⊢
      clear hN
      have BN := hide ((unhide B0).trans ((unhide BA).mono (by omega)))
      have X1 := hide ((unhide X0).below (unhide BA) (by omega))
      have LN := hide ((unhide HL).below (unhide BN))
      refine (beginsNumber_in T hTz Vn).mono ?_
      rintro e V' ⟨rfl, rfl⟩
      clear X0 B0 Q0 HX BA
      cases hbg : bgN T with
      | false =>
        have HX3 := hide (show (⟨1, T, 0, b, s.size, 0⟩ : Wd) = X by have h := unhide HX2; rw [if_pos hbg] at h; exact h)
        have B3 := BN
        have c0 : Vn.cell? ⟨N, 0, none⟩ = some (.int .i64 1) := by simp [World.cell?, unhide N0]
        have c1 : Vn.cell? ⟨N, 1, none⟩ = some (.string T) := by simp [World.cell?, unhide N0]
        have c2 : Vn.cell? ⟨N, 2, none⟩ = some (.int .i64 0) := by simp [World.cell?, unhide N0]
        have c3 : Vn.cell? ⟨N, 3, none⟩ = some (.int .i64 (b : Int)) := by simp [World.cell?, unhide N0]
        have c4 : Vn.cell? ⟨N, 4, none⟩ = some (.int .i64 0) := by simp [World.cell?, unhide N0]
        obtain ⟨⟨v0, q0⟩, ⟨v1, q1⟩, ⟨v2, q2⟩, ⟨v3, q3⟩, ⟨v4, q4⟩, f0, f1, f2, f3, f4⟩ := (unhide X1).facts
        clear hbg HX2 N0 X1 LN
        go_wp2
        first | rw [Exit.noGoto_ret] | skip
        refine bodyPost_ret (v := .tuple #[wV 1 T 0 b 0, .int .i64 (s.size : Int), .int .i64 0]) ?_ rfl ⟨by rw [← unhide HX3]; rfl, ?_⟩
        · simp [results, Tryz.f57, go_sem, wV, *]
        · exact (((((unhide B3).setCell (Nat.le_refl _) _).setCell (Nat.le_refl _) _).setCell (Nat.le_refl _) _).setCell (Nat.le_refl _) _).setCell (Nat.le_refl _) _
      | true =>
        have c1 : Vn.cell? ⟨N, 1, none⟩ = some (.string T) := by simp [World.cell?, unhide N0]
        have hdc := hide (decimal_in T hTz Vn (unhide LN))
        have HX4 := hide (show (match decN T with | none => (⟨0, ⟨#[]⟩, 0, b, 0, 6⟩ : Wd) | some n => ⟨3, ⟨#[]⟩, n, b, s.size, 0⟩) = X by have h := unhide HX2; rw [if_neg (by rw [hbg]; simp)] at h; exact h)
        clear hbg HX2 N0 LN
        cases hd : decN T with
        | none =>
          rw [hd] at hdc HX4
          have HX3 := hide (show (⟨0, ⟨#[]⟩, 0, b, 0, 6⟩ : Wd) = X from unhide HX4)
          clear hd HX4
          go_wp2_with fail
          refine (unhide hdc).mono ?_
          rintro e Vd ⟨rfl, bd⟩
          have B3 := hide ((unhide BN).trans (bd.mono (unhide BN).size))
          have X2 := (unhide X1).below bd (by omega)
          obtain ⟨⟨v0, q0⟩, ⟨v1, q1⟩, ⟨v2, q2⟩, ⟨v3, q3⟩, ⟨v4, q4⟩, f0, f1, f2, f3, f4⟩ := X2.facts
          clear X1 X2 bd hdc BN c1
          go_wp2
          first | rw [Exit.noGoto_ret] | skip
          refine bodyPost_ret (v := .tuple #[wV 0 ⟨#[]⟩ 0 b 0, .int .i64 0, .int .i64 6]) ?_ rfl ⟨by rw [← unhide HX3]; rfl, ?_⟩
          · simp [results, Tryz.f57, go_sem, wV, *]
          · exact (((((unhide B3).setCell (Nat.le_refl _) _).setCell (Nat.le_refl _) _).setCell (Nat.le_refl _) _).setCell (Nat.le_refl _) _).setCell (Nat.le_refl _) _
        | some n =>
          rw [hd] at hdc HX4
          have HX3 := hide (show (⟨3, ⟨#[]⟩, n, b, s.size, 0⟩ : Wd) = X from unhide HX4)
          clear hd HX4
          go_wp2_with fail
          refine (unhide hdc).mono ?_
          rintro e Vd ⟨rfl, bd⟩
          have B3 := hide ((unhide BN).trans (bd.mono (unhide BN).size))
          have X2 := (unhide X1).below bd (by omega)
          obtain ⟨⟨v0, q0⟩, ⟨v1, q1⟩, ⟨v2, q2⟩, ⟨v3, q3⟩, ⟨v4, q4⟩, f0, f1, f2, f3, f4⟩ := X2.facts
          clear X1 X2 bd hdc BN c1
          go_wp2
          first | rw [Exit.noGoto_ret] | skip
          refine bodyPost_ret (v := .tuple #[wV 3 ⟨#[]⟩ n b 0, .int .i64 (s.size : Int), .int .i64 0]) ?_ rfl ⟨by rw [← unhide HX3]; rfl, ?_⟩
          · simp [results, Tryz.f57, go_sem, wV, *]
          · exact (((((unhide B3).setCell (Nat.le_refl _) _).setCell (Nat.le_refl _) _).setCell (Nat.le_refl _) _).setCell (Nat.le_refl _) _).setCell (Nat.le_refl _) _

end Go.Proofs.YtkndjbmlkfpfoaaGreatDoor
