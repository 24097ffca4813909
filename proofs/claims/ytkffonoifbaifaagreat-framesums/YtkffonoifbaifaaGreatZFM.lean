/-
  The law's example and same, of the document's example.
-/
import Derived.Test.YtkffonoifbaifaaGreatZFL
set_option linter.unusedSimpArgs false
set_option linter.unusedVariables false
namespace Go.Proofs.YtkffonoifbaifaaGreat
open Go.RowKit Go.Lib


theorem neqI2 (x y : Int × Int) (w : World) : (binOp .neq 51 (.agg #[.int .i64 x.1, .int .i64 x.2]) (.agg #[.int .i64 y.1, .int .i64 y.2])).run Tryz.prog w = .ok (.bool (!decide (x = y))) w := neqD x.1 x.2 y.1 y.2 w

set_option maxRecDepth 100000 in
set_option maxHeartbeats 4000000 in
theorem vectors_in (l m : List (Int × Int)) (v u : Value) (w : World) (hv : RI w v l) (hu : RI w u m) (hl : l.length ≤ 140737488355328) (hm : m.length ≤ 140737488355328) :
    Calls Tryz.prog 21 #[v, u] w fun e W => e = .returned (.bool (decide (l = m))) ∧ ∃ n, W = w.drewN n := by
  obtain ⟨a, c, rfl⟩ := RC.form hv
  obtain ⟨a', c', rfl⟩ := RC.form hu
  by_cases hne : l.length = m.length
  · have Hv := hide hv
    have Hu := hide hu
    obtain ⟨L, hL⟩ : ∃ L, l.length = L := ⟨_, rfl⟩
    rw [← hne] at hm ⊢
    have HM := hide (hne.symm.trans hL)
    rw [hL] at hl hm ⊢
    have HL := hide hL
    obtain ⟨D, hD⟩ : ∃ D, decide (l = m) = D := ⟨_, rfl⟩
    rw [hD]
    replace hD := hide hD
    clear hv hu hL hne
    go_enter Tryz.func21, Tryz.ntmps21
    go_wp2
    go_loopw [5] (fun iv wr => ∃ i n : Nat, i ≤ L ∧ iv = .int .i64 (i : Nat) ∧ Hid (l.take i = m.take i) ∧ wr = w.drewN n) (fun iv _ => L - (RowKit.intOf iv).toNat)
    case atStart => exact ⟨0, 0, by omega, rfl, hide rfl, rfl⟩
    case round =>
      obtain ⟨i, nd, hi, rfl, htk, rfl⟩ := hrel
      by_cases hlt : i < L
      · have hlt' : i < l.length := by rw [unhide HL]; exact hlt
        have hlt'' : i < m.length := by rw [unhide HM]; exact hlt
        have hA := unhide Hv
        have hB := unhide Hu
        rw [unhide HL] at hA
        rw [unhide HM] at hB
        obtain ⟨b, off, rfl, b0, c0, c1⟩ := RI.at hA (List.getElem?_eq_getElem hlt')
        obtain ⟨b', off', rfl, b1, d0, d1⟩ := RI.at hB (List.getElem?_eq_getElem hlt'')
        have i1 : (i : Int) < (L : Int) := by omega
        clear hA hB Hv Hu
        have hnq := neqI2 l[i] m[i]
        by_cases he : l[i] = m[i]
        · have hde : decide (l[i] = m[i]) = true := decide_eq_true he
          rw [hde] at hnq
          have htk' : l.take (i + 1) = m.take (i + 1) := by
            rw [List.take_add_one, List.take_add_one, unhide htk, List.getElem?_eq_getElem hlt', List.getElem?_eq_getElem hlt'', he]
          have Htk' := hide htk'
          clear he hde htk'
          generalize l[i] = e at *
          generalize m[i] = e' at *
          obtain ⟨t, s⟩ := e
          obtain ⟨t', s'⟩ := e'
          (try simp only at *)
          go_wp2
          go_quiet (fail)
          go_wp2
          go_roundw
          case rel => exact ⟨i + 1, _, by omega, by go_num, hide (unhide Htk'), rfl⟩
          case measure => simp [RowKit.intOf]; omega
        · have hde : decide (l[i] = m[i]) = false := decide_eq_false he
          rw [hde] at hnq
          have Hfin := hide (show D = false by
            rw [← unhide hD, decide_eq_false_iff_not]
            intro e
            subst e
            exact he rfl)
          clear he hde
          generalize l[i] = e at *
          generalize m[i] = e' at *
          obtain ⟨t, s⟩ := e
          obtain ⟨t', s'⟩ := e'
          (try simp only at *)
          go_wp2
          go_quiet (fail)
          go_wp2
          go_ret
          exact ⟨by rw [unhide Hfin]; rfl, nd + nq, World.drewN_drewN _ _ _⟩
      · have Hfin := hide (show D = true by
          have h := unhide htk
          rw [List.take_of_length_le (by rw [unhide HL]; omega), List.take_of_length_le (by rw [unhide HM]; omega)] at h
          rw [← unhide hD]
          exact decide_eq_true h)
        have i1 : ¬ (i : Int) < (L : Int) := by omega
        go_wp2
        go_ret
        exact ⟨by rw [unhide Hfin]; rfl, nd, rfl⟩
  · have hd : decide (l = m) = false := by rw [decide_eq_false_iff_not]; intro e; exact hne (by rw [e])
    rw [hd]
    have hne' : ((l.length : Int) == (m.length : Int)) = false := by rw [beq_eq_false_iff_ne]; omega
    clear hd hv hu hne
    generalize l.length = L at *
    generalize m.length = M at *
    go_enter Tryz.func21, Tryz.ntmps21
    go_wp2
    go_ret
    exact ⟨rfl, 0, rfl⟩


set_option maxRecDepth 100000 in
theorem ints_nil (w : World) : Calls Tryz.prog 53 #[(Value.slice none 0 0), (Value.slice none 0 0)] w fun r W => r = .returned (.bool true) ∧ w = W := by
  go_enter Tryz.func53, Tryz.ntmps53
  go_wp2
  go_loopw [5] (fun iv wr => iv = .int .i64 0 ∧ wr = w) (fun _ _ => 0)
  case atStart => exact ⟨rfl, rfl⟩
  case round =>
    obtain ⟨rfl, rfl⟩ := hrel
    go_wp2
    go_ret
    exact ⟨rfl, rfl⟩
set_option maxRecDepth 100000 in
theorem ops_nil (w : World) : Calls Tryz.prog 22 #[(Value.slice none 0 0), (Value.slice none 0 0)] w fun r W => r = .returned (.bool true) ∧ w = W := by
  go_enter Tryz.func22, Tryz.ntmps22
  go_wp2
  go_loopw [5] (fun iv wr => iv = .int .i64 0 ∧ wr = w) (fun _ _ => 0)
  case atStart => exact ⟨rfl, rfl⟩
  case round =>
    obtain ⟨rfl, rfl⟩ := hrel
    go_wp2
    go_ret
    exact ⟨rfl, rfl⟩
set_option maxRecDepth 100000 in
theorem vec_nil (w : World) : Calls Tryz.prog 21 #[(Value.slice none 0 0), (Value.slice none 0 0)] w fun r W => r = .returned (.bool true) ∧ w = W := by
  go_enter Tryz.func21, Tryz.ntmps21
  go_wp2
  go_loopw [5] (fun iv wr => iv = .int .i64 0 ∧ wr = w) (fun _ _ => 0)
  case atStart => exact ⟨rfl, rfl⟩
  case round =>
    obtain ⟨rfl, rfl⟩ := hrel
    go_wp2
    go_ret
    exact ⟨rfl, rfl⟩

set_option maxRecDepth 100000 in
set_option maxHeartbeats 4000000 in
theorem images_nil (w : World) : Calls Tryz.prog 23 #[.agg #[(Value.slice none 0 0), (Value.slice none 0 0), (Value.int .i64 0), (Value.slice none 0 0), (Value.slice none 0 0), (Value.slice none 0 0), (Value.slice none 0 0), (Value.int .i64 0)], .agg #[(Value.slice none 0 0), (Value.slice none 0 0), (Value.int .i64 0), (Value.slice none 0 0), (Value.slice none 0 0), (Value.slice none 0 0), (Value.slice none 0 0), (Value.int .i64 0)]] w fun r W => r = .returned (.bool true) ∧ Below w.heap.size w W := by
  have B0 := hide (ballc (ballc (Below.refl w.heap.size w) (.cells #[(Value.slice none 0 0), (Value.slice none 0 0), (Value.int .i64 0), (Value.slice none 0 0), (Value.slice none 0 0), (Value.slice none 0 0), (Value.slice none 0 0), (Value.int .i64 0)] 37)) (.cells #[(Value.slice none 0 0), (Value.slice none 0 0), (Value.int .i64 0), (Value.slice none 0 0), (Value.slice none 0 0), (Value.slice none 0 0), (Value.slice none 0 0), (Value.int .i64 0)] 37))
  go_enter Tryz.func23, Tryz.ntmps23
  go_wp2_with (first | (go_at_call 21; refine (vec_nil _).mono ?_; rintro r W1 ⟨rfl, rfl⟩) | (go_at_call 22; refine (ops_nil _).mono ?_; rintro r W1 ⟨rfl, rfl⟩) | (go_at_call 53; refine (ints_nil _).mono ?_; rintro r W1 ⟨rfl, rfl⟩))
  obtain ⟨X, hX⟩ : ∃ X, (w.alloc (.cells #[(Value.slice none 0 0), (Value.slice none 0 0), (Value.int .i64 0), (Value.slice none 0 0), (Value.slice none 0 0), (Value.slice none 0 0), (Value.slice none 0 0), (Value.int .i64 0)] 37)).alloc (.cells #[(Value.slice none 0 0), (Value.slice none 0 0), (Value.int .i64 0), (Value.slice none 0 0), (Value.slice none 0 0), (Value.slice none 0 0), (Value.slice none 0 0), (Value.int .i64 0)] 37) = X := ⟨_, rfl⟩
  have x1 : Bx X w.heap.size 37 #[(Value.slice none 0 0), (Value.slice none 0 0), (Value.int .i64 0), (Value.slice none 0 0), (Value.slice none 0 0), (Value.slice none 0 0), (Value.slice none 0 0), (Value.int .i64 0)] := by rw [← hX]; exact (Bx.new w _ _).below (ballc (Below.refl _ _) _)
  have c4 := x1.cell 4 _ rfl
  rw [hX] at B0 ⊢
  clear hX x1
  go_loopw [5] (fun iv wr => iv = .int .i64 0 ∧ wr = X) (fun _ _ => 0)
  case atStart => exact ⟨rfl, rfl⟩
  case round =>
    obtain ⟨rfl, rfl⟩ := hrel
    go_wp2
    go_ret
    exact ⟨rfl, unhide B0⟩
set_option maxRecDepth 100000 in
set_option maxHeartbeats 4000000 in
theorem same_ex (u u' : Value) (w : World) (h : RI w u [(1, 7)]) (h' : RI w u' [(1, 7)]) : Calls Tryz.prog 12 #[.agg #[Value.int .i64 1, Value.int .i64 1, Value.int .i64 2, Value.int .i64 3, Value.int .i64 4, Value.int .i64 5, Value.bool true, u, (Value.slice none 0 0), (Value.slice none 0 0), (Value.slice none 0 0), (Value.int .i64 0), (Value.slice none 0 0), (Value.slice none 0 0), (Value.slice none 0 0), (Value.slice none 0 0), (Value.int .i64 0)], .agg #[Value.int .i64 1, Value.int .i64 1, Value.int .i64 2, Value.int .i64 3, Value.int .i64 4, Value.int .i64 5, Value.bool true, u', (Value.slice none 0 0), (Value.slice none 0 0), (Value.slice none 0 0), (Value.int .i64 0), (Value.slice none 0 0), (Value.slice none 0 0), (Value.slice none 0 0), (Value.slice none 0 0), (Value.int .i64 0)]] w fun r W => r = .returned (.bool true) ∧ Below w.heap.size w W := by
  obtain ⟨ua, uc, rfl⟩ := h.form
  obtain ⟨ub, ud, rfl⟩ := h'.form
  rw [show [((1 : Int), (7 : Int))].length = 1 from rfl] at h h' ⊢
  have B0 := hide (ballc (ballc (Below.refl w.heap.size w) (.cells #[Value.int .i64 1, Value.int .i64 1, Value.int .i64 2, Value.int .i64 3, Value.int .i64 4, Value.int .i64 5, Value.bool true, (.slice ua 1 uc), (Value.slice none 0 0), (Value.slice none 0 0), (Value.slice none 0 0), (Value.int .i64 0), (Value.slice none 0 0), (Value.slice none 0 0), (Value.slice none 0 0), (Value.slice none 0 0), (Value.int .i64 0)] 39)) (.cells #[Value.int .i64 1, Value.int .i64 1, Value.int .i64 2, Value.int .i64 3, Value.int .i64 4, Value.int .i64 5, Value.bool true, (.slice ub 1 ud), (Value.slice none 0 0), (Value.slice none 0 0), (Value.slice none 0 0), (Value.int .i64 0), (Value.slice none 0 0), (Value.slice none 0 0), (Value.slice none 0 0), (Value.slice none 0 0), (Value.int .i64 0)] 39))
  have HV := hide (vectors_in [(1, 7)] [(1, 7)] _ _ _ (h.below (unhide B0)) (h'.below (unhide B0)) (by decide) (by decide))
  rw [decide_eq_true (rfl : [((1 : Int), (7 : Int))] = [(1, 7)])] at HV
  obtain ⟨X, hX⟩ : ∃ X, (w.alloc (.cells #[Value.int .i64 1, Value.int .i64 1, Value.int .i64 2, Value.int .i64 3, Value.int .i64 4, Value.int .i64 5, Value.bool true, (.slice ua 1 uc), (Value.slice none 0 0), (Value.slice none 0 0), (Value.slice none 0 0), (Value.int .i64 0), (Value.slice none 0 0), (Value.slice none 0 0), (Value.slice none 0 0), (Value.slice none 0 0), (Value.int .i64 0)] 39)).alloc (.cells #[Value.int .i64 1, Value.int .i64 1, Value.int .i64 2, Value.int .i64 3, Value.int .i64 4, Value.int .i64 5, Value.bool true, (.slice ub 1 ud), (Value.slice none 0 0), (Value.slice none 0 0), (Value.slice none 0 0), (Value.int .i64 0), (Value.slice none 0 0), (Value.slice none 0 0), (Value.slice none 0 0), (Value.slice none 0 0), (Value.int .i64 0)] 39) = X := ⟨_, rfl⟩
  have x1 : Bx X w.heap.size 39 #[Value.int .i64 1, Value.int .i64 1, Value.int .i64 2, Value.int .i64 3, Value.int .i64 4, Value.int .i64 5, Value.bool true, (.slice ua 1 uc), (Value.slice none 0 0), (Value.slice none 0 0), (Value.slice none 0 0), (Value.int .i64 0), (Value.slice none 0 0), (Value.slice none 0 0), (Value.slice none 0 0), (Value.slice none 0 0), (Value.int .i64 0)] := by rw [← hX]; exact (Bx.new w _ _).below (ballc (Below.refl _ _) _)
  have x2 : Bx X (w.heap.size + 1) 39 #[Value.int .i64 1, Value.int .i64 1, Value.int .i64 2, Value.int .i64 3, Value.int .i64 4, Value.int .i64 5, Value.bool true, (.slice ub 1 ud), (Value.slice none 0 0), (Value.slice none 0 0), (Value.slice none 0 0), (Value.int .i64 0), (Value.slice none 0 0), (Value.slice none 0 0), (Value.slice none 0 0), (Value.slice none 0 0), (Value.int .i64 0)] := by
    rw [← hX]
    have := Bx.new (w.alloc (.cells #[Value.int .i64 1, Value.int .i64 1, Value.int .i64 2, Value.int .i64 3, Value.int .i64 4, Value.int .i64 5, Value.bool true, (.slice ua 1 uc), (Value.slice none 0 0), (Value.slice none 0 0), (Value.slice none 0 0), (Value.int .i64 0), (Value.slice none 0 0), (Value.slice none 0 0), (Value.slice none 0 0), (Value.slice none 0 0), (Value.int .i64 0)] 39)) 39 #[Value.int .i64 1, Value.int .i64 1, Value.int .i64 2, Value.int .i64 3, Value.int .i64 4, Value.int .i64 5, Value.bool true, (.slice ub 1 ud), (Value.slice none 0 0), (Value.slice none 0 0), (Value.slice none 0 0), (Value.int .i64 0), (Value.slice none 0 0), (Value.slice none 0 0), (Value.slice none 0 0), (Value.slice none 0 0), (Value.int .i64 0)]
    rwa [World.size_alloc] at this
  have HX := hide (show Bx X w.heap.size 39 #[Value.int .i64 1, Value.int .i64 1, Value.int .i64 2, Value.int .i64 3, Value.int .i64 4, Value.int .i64 5, Value.bool true, (.slice ua 1 uc), (Value.slice none 0 0), (Value.slice none 0 0), (Value.slice none 0 0), (Value.int .i64 0), (Value.slice none 0 0), (Value.slice none 0 0), (Value.slice none 0 0), (Value.slice none 0 0), (Value.int .i64 0)] ∧ Bx X (w.heap.size + 1) 39 #[Value.int .i64 1, Value.int .i64 1, Value.int .i64 2, Value.int .i64 3, Value.int .i64 4, Value.int .i64 5, Value.bool true, (.slice ub 1 ud), (Value.slice none 0 0), (Value.slice none 0 0), (Value.slice none 0 0), (Value.int .i64 0), (Value.slice none 0 0), (Value.slice none 0 0), (Value.slice none 0 0), (Value.slice none 0 0), (Value.int .i64 0)] from ⟨x1, x2⟩)
  rw [hX] at B0 HV
  have p0 := x1.cell 0 _ rfl
  have q0 := x2.cell 0 _ rfl
  have p1 := x1.cell 1 _ rfl
  have q1 := x2.cell 1 _ rfl
  have p2 := x1.cell 2 _ rfl
  have q2 := x2.cell 2 _ rfl
  have p3 := x1.cell 3 _ rfl
  have q3 := x2.cell 3 _ rfl
  have p4 := x1.cell 4 _ rfl
  have q4 := x2.cell 4 _ rfl
  have p5 := x1.cell 5 _ rfl
  have q5 := x2.cell 5 _ rfl
  have p6 := x1.cell 6 _ rfl
  have q6 := x2.cell 6 _ rfl
  have p7 := x1.cell 7 _ rfl
  have q7 := x2.cell 7 _ rfl
  clear h h' x1 x2
  go_enter Tryz.func12, Tryz.ntmps12
  go_wp2_with fail
  refine (unhide HV).mono ?_
  rintro r W1 ⟨rfl, n, rfl⟩
  have hbn : Below X.heap.size X (X.drewN n) := bdrew (Below.refl _ _) n
  have HB1 := hide (bnext (unhide B0) hbn)
  have x1 := (unhide HX).1.below hbn
  have x2 := (unhide HX).2.below hbn
  clear p0 q0 p1 q1 p2 q2 p3 q3 p4 q4 p5 q5 p6 q6 p7 q7 hX
  have p8 := x1.cell 8 _ rfl
  have q8 := x2.cell 8 _ rfl
  have p9 := x1.cell 9 _ rfl
  have q9 := x2.cell 9 _ rfl
  have p10 := x1.cell 10 _ rfl
  have q10 := x2.cell 10 _ rfl
  have p11 := x1.cell 11 _ rfl
  have q11 := x2.cell 11 _ rfl
  have p12 := x1.cell 12 _ rfl
  have q12 := x2.cell 12 _ rfl
  have p13 := x1.cell 13 _ rfl
  have q13 := x2.cell 13 _ rfl
  have p14 := x1.cell 14 _ rfl
  have q14 := x2.cell 14 _ rfl
  have p15 := x1.cell 15 _ rfl
  have q15 := x2.cell 15 _ rfl
  have p16 := x1.cell 16 _ rfl
  have q16 := x2.cell 16 _ rfl
  clear x1 x2 hbn
  go_wp2_with (first | (go_at_call 22; refine (ops_nil _).mono ?_; rintro r W2 ⟨rfl, rfl⟩))
  refine (images_nil _).mono ?_
  rintro r W2 ⟨rfl, hb⟩
  have FIN := hide (bnext (unhide HB1) hb)
  go_wp2
  go_ret
  exact ⟨rfl, unhide FIN⟩
set_option maxRecDepth 100000 in
set_option maxHeartbeats 4000000 in
theorem example_in (w : World) : Calls Tryz.prog 9 #[] w fun r W => ∃ u, r = .returned (.agg #[Value.int .i64 1, Value.int .i64 1, Value.int .i64 2, Value.int .i64 3, Value.int .i64 4, Value.int .i64 5, Value.bool true, u, (Value.slice none 0 0), (Value.slice none 0 0), (Value.slice none 0 0), (Value.int .i64 0), (Value.slice none 0 0), (Value.slice none 0 0), (Value.slice none 0 0), (Value.slice none 0 0), (Value.int .i64 0)]) ∧ RI W u [(1, 7)] ∧ Below w.heap.size w W := by
  go_enter Tryz.func9, Tryz.ntmps9
  go_wp2
  have x1 : Bx ((w.alloc (.cells #[Value.int .i64 1, Value.int .i64 1, Value.int .i64 2, Value.int .i64 3, Value.int .i64 4, Value.int .i64 5, Value.bool true, (.slice (some ⟨w.heap.size + 1, 0, none⟩) 1 1), (Value.slice none 0 0), (Value.slice none 0 0), (Value.slice none 0 0), (Value.int .i64 0), (Value.slice none 0 0), (Value.slice none 0 0), (Value.slice none 0 0), (Value.slice none 0 0), (Value.int .i64 0)] 39)).alloc (.cells #[.int .i64 1, .int .i64 7] 51)) w.heap.size 39 #[Value.int .i64 1, Value.int .i64 1, Value.int .i64 2, Value.int .i64 3, Value.int .i64 4, Value.int .i64 5, Value.bool true, (.slice (some ⟨w.heap.size + 1, 0, none⟩) 1 1), (Value.slice none 0 0), (Value.slice none 0 0), (Value.slice none 0 0), (Value.int .i64 0), (Value.slice none 0 0), (Value.slice none 0 0), (Value.slice none 0 0), (Value.slice none 0 0), (Value.int .i64 0)] := (Bx.new w _ _).below (ballc (Below.refl _ _) _)
  have x2 := Bx.new (w.alloc (.cells #[Value.int .i64 1, Value.int .i64 1, Value.int .i64 2, Value.int .i64 3, Value.int .i64 4, Value.int .i64 5, Value.bool true, (.slice (some ⟨w.heap.size + 1, 0, none⟩) 1 1), (Value.slice none 0 0), (Value.slice none 0 0), (Value.slice none 0 0), (Value.int .i64 0), (Value.slice none 0 0), (Value.slice none 0 0), (Value.slice none 0 0), (Value.slice none 0 0), (Value.int .i64 0)] 39)) 51 #[.int .i64 1, .int .i64 7]
  rw [World.size_alloc] at x2
  have bX := ballc (ballc (Below.refl w.heap.size w) (.cells #[Value.int .i64 1, Value.int .i64 1, Value.int .i64 2, Value.int .i64 3, Value.int .i64 4, Value.int .i64 5, Value.bool true, (.slice (some ⟨w.heap.size + 1, 0, none⟩) 1 1), (Value.slice none 0 0), (Value.slice none 0 0), (Value.slice none 0 0), (Value.int .i64 0), (Value.slice none 0 0), (Value.slice none 0 0), (Value.slice none 0 0), (Value.slice none 0 0), (Value.int .i64 0)] 39)) (.cells #[.int .i64 1, .int .i64 7] 51)
  refine bodyPost_ret (results_cell_row rfl _ _ w.heap.size _ _ _ _ rfl x1 Tryz.underlying39 rfl sizeF) rfl ?_
  refine ⟨_, rfl, .inr ⟨w.heap.size + 1, 0, 1, rfl, Nat.le_refl _, x2.lt, fun j x hj => ?_⟩, bX⟩
  rw [Nat.zero_add]
  exact x2.cell j x (by simpa [flat, encI] using hj)
end Go.Proofs.YtkffonoifbaifaaGreat
