/-
  The place of a column of a line.
-/
import Derived.Test.YtiakhpfljjfaeaaZXMap
import Derived.Test.YtiakhpfljjfaeaaZXPlace
set_option linter.unusedSimpArgs false
set_option linter.unusedVariables false
namespace Go.Proofs.Ytiakhpfljjfaeaa
open Go.RowKit Go.Lib

set_option maxHeartbeats 1000000 in
theorem cell1_in (b r u c : Int) (l k : Nat) (line col : Int) (bL bC : Nat) (w : World) (hL : Boxed w bL 3 (.int .i64 line)) (hC : Boxed w bC 3 (.int .i64 col)) :
    Calls Try.prog 28 #[.agg #[.int .i64 b, .int .i64 r, .int .i64 u, .int .i64 c, .int .i64 (l : Nat), .int .i64 (k : Nat)], .pointer (some ⟨bL, 0, none⟩), .pointer (some ⟨bC, 0, none⟩)] w
      fun e w' => e = .returned (.bool (decide (line < (l : Nat)) || (decide ((l : Nat) = line) && decide (col ≤ (k : Nat))))) ∧ Below w.heap.size w w' := by
  have hB : ∀ A : Obj, Below w.heap.size w (w.alloc A) := fun A => (Below.refl _ w).alloc (Nat.le_refl _) _
  have c1 : ∀ A : Obj, (w.alloc A).cell? ⟨bL, 0, none⟩ = some (.int .i64 line) := fun A => (boxed_below hL (hB A)).cell
  have c2 : ∀ A : Obj, (w.alloc A).cell? ⟨bC, 0, none⟩ = some (.int .i64 col) := fun A => (boxed_below hC (hB A)).cell
  by_cases h1 : line < (l : Nat)
  · rw [decide_eq_true h1, Bool.true_or]
    go_enter Try.func28, Try.ntmps28
    go_wp2
    go_ret
    exact ⟨rfl, hB _⟩
  · rw [decide_eq_false h1, Bool.false_or]
    by_cases h2 : ((l : Nat) : Int) = line
    · rw [decide_eq_true h2, Bool.true_and]
      go_enter Try.func28, Try.ntmps28
      go_wp2
      go_ret
      exact ⟨rfl, hB _⟩
    · rw [decide_eq_false h2, Bool.false_and]
      go_enter Try.func28, Try.ntmps28
      go_wp2
      go_ret
      exact ⟨rfl, hB _⟩

set_option maxRecDepth 100000 in
set_option maxHeartbeats 1000000 in
theorem within_end (s : ByteArray) (p x : Nat) (w : World) (hs : s.size ≤ 1000000) (hm : MapAt s p w) (hx : x ≤ s.size) :
    Calls Try.prog 29 #[.pointer (some ⟨p, 0, none⟩), .int .i64 (x : Nat)] w fun e w' => e = .returned (.bool (pI s x)) ∧ w' = w := by
  have c1 := hm.1
  have z1 := size_ext s 0 x hx
  have z2 := size_ext s x s.size (Nat.le_refl _)
  have hS := fun w => hide (suf_in (s.extract 0 x) 13 w (by omega))
  have hP := fun w => hide (pre_in (s.extract x s.size) 10 w (by omega))
  rw [suf_ext s x hx] at hS
  rw [pre_ext s x hx] at hP
  have i1 : (x : Int) ≤ (s.size : Int) := by omega
  have e0 : pI s x = ((decide (0 < x) && by_ s (x - 1) == 13) && (decide (x < s.size) && by_ s x == 10)) := rfl
  rw [e0]
  generalize (decide (0 < x) && by_ s (x - 1) == 13) = p1 at hS ⊢
  generalize (decide (x < s.size) && by_ s x == 10) = p2 at hP ⊢
  clear hm z1 z2 hs e0
  cases p1 with
  | true =>
    rw [Bool.true_and]
    go_enter Try.func29, Try.ntmps29
    go_wp2_with (first | (go_at_call 48; refine (unhide (hS _)).mono ?_; rintro e w1 ⟨rfl, rfl⟩) | (go_at_call 40; refine (unhide (hP _)).mono ?_; rintro e w1 ⟨rfl, rfl⟩))
    go_ret
    exact ⟨rfl, rfl⟩
  | false =>
    rw [Bool.false_and]
    go_enter Try.func29, Try.ntmps29
    go_wp2_with (first | (go_at_call 48; refine (unhide (hS _)).mono ?_; rintro e w1 ⟨rfl, rfl⟩) | (go_at_call 40; refine (unhide (hP _)).mono ?_; rintro e w1 ⟨rfl, rfl⟩))
    go_ret
    exact ⟨rfl, rfl⟩

/-- what Cell answers -/
def cellV (s : ByteArray) (l c : Int) : Value := if cellOK s l c then .tuple #[spN s (cellK s l c), .int .i64 0] else .tuple #[zeroV, .int .i64 3]

set_option maxRecDepth 100000 in
set_option maxHeartbeats 2000000 in
theorem cell_no (s : ByteArray) (p : Nat) (l c : Int) (w : World) (hs : s.size ≤ 1000000) (hm : MapAt s p w) (hk : ¬ cellK s l c ≤ pN s) :
    Calls Try.prog 11 #[.pointer (some ⟨p, 0, none⟩), .int .i64 l, .int .i64 c] w fun e w' => e = .returned (.tuple #[zeroV, .int .i64 3]) ∧ Below w.heap.size w w' := by
  have hB0 : ∀ A B C : Obj, Below w.heap.size w (((w.alloc A).alloc B).alloc C) := fun A B C => (((Below.refl _ w).alloc (Nat.le_refl _) _).alloc (by simp) _).alloc (by simp; omega) _
  have hB3 := hB0 (.cells #[.int .i64 l] 3) (.cells #[.int .i64 c] 3) (.cells #[.int .i64 0, .int .i64 0, .int .i64 0, .int .i64 0, .int .i64 0, .int .i64 0] 29)
  have bL := ((Boxed.new w 3 (.int .i64 l)).alloc (.cells #[.int .i64 c] 3)).alloc (.cells #[.int .i64 0, .int .i64 0, .int .i64 0, .int .i64 0, .int .i64 0, .int .i64 0] 29)
  have bC := (Boxed.new (w.alloc (.cells #[.int .i64 l] 3)) 3 (.int .i64 c)).alloc (.cells #[.int .i64 0, .int .i64 0, .int .i64 0, .int .i64 0, .int .i64 0, .int .i64 0] 29)
  have b6 := Box6.new ((w.alloc (.cells #[.int .i64 l] 3)).alloc (.cells #[.int .i64 c] 3)) (.int .i64 0) (.int .i64 0) (.int .i64 0) (.int .i64 0) (.int .i64 0) (.int .i64 0)
  simp only [World.size_alloc] at bC b6
  obtain ⟨W3, hW3⟩ : ∃ W3, ((w.alloc (.cells #[.int .i64 l] 3)).alloc (.cells #[.int .i64 c] 3)).alloc (.cells #[.int .i64 0, .int .i64 0, .int .i64 0, .int .i64 0, .int .i64 0, .int .i64 0] 29) = W3 := ⟨_, rfl⟩
  rw [hW3] at hB3 bL bC b6
  have hf : ∀ i W, i ≤ pN s → Below W3.heap.size W3 W → Calls Try.prog 28 (#[spN s i] ++ #[.pointer (some ⟨w.heap.size, 0, none⟩), .pointer (some ⟨w.heap.size + 1, 0, none⟩)]) W fun e W' => e = .returned (.bool (cellP s l c i)) ∧ Below W.heap.size W W' :=
    fun i W _ hW => cell1_in _ _ _ _ _ _ l c _ _ W (boxed_below bL hW) (boxed_below bC hW)
  have hen : ∀ args w, (callFunc 28 args).run Try.prog w = .ok (.enter 28 args) w := enters_of Try.func28 (by kernel_rfl) rfl
  have hF := hide (first_no s p 28 _ (cellP s l c) W3 hs (hm.below hB3) hen hf (fun i hi => cellK_no (by omega)))
  have HW := hide hW3
  clear hf hen hB0 hs hm hk hW3
  go_enter Try.func11, Try.ntmps11
  go_wp2_with (go_at_call 27; rw [unhide HW]; refine (unhide hF).mono ?_; rintro e w1 ⟨rfl, hb1⟩; obtain ⟨c0, c1, c2, c3, c4, c5, f0, f1, f2, f3, f4, f5⟩ := ((b6.below hb1).below ((Below.refl _ w1).alloc (Nat.le_refl _) (.cells #[.int .i64 0, .int .i64 0, .int .i64 0, .int .i64 0, .int .i64 0, .int .i64 0] 29))).facts)
  refine bodyPost_ret (v := .tuple #[zeroV, .int .i64 3]) ?_ rfl ⟨rfl, ?_⟩
  · simp [results, Try.f11, go_sem, zeroV, spV, *]
  · exact bset6 ((bnext hB3 hb1).alloc (bnext hB3 hb1).size _) (by omega) _ _ _ _ _ _

set_option maxRecDepth 100000 in
set_option maxHeartbeats 4000000 in
theorem cell_fnd (s : ByteArray) (p : Nat) (l c : Int) (w : World) (hs : s.size ≤ 1000000) (hm : MapAt s p w) (hk : cellK s l c ≤ pN s) :
    Calls Try.prog 11 #[.pointer (some ⟨p, 0, none⟩), .int .i64 l, .int .i64 c] w fun e w' => e = .returned (if (decide ((pL s (cellK s l c) : Nat) = l) && (decide ((pK s (cellK s l c) : Nat) = c) && !pI s (pB s (cellK s l c)))) then .tuple #[spN s (cellK s l c), .int .i64 0] else .tuple #[zeroV, .int .i64 3]) ∧ Below w.heap.size w w' := by
  have hB0 : ∀ A B C : Obj, Below w.heap.size w (((w.alloc A).alloc B).alloc C) := fun A B C => (((Below.refl _ w).alloc (Nat.le_refl _) _).alloc (by simp) _).alloc (by simp; omega) _
  have hB3 := hB0 (.cells #[.int .i64 l] 3) (.cells #[.int .i64 c] 3) (.cells #[.int .i64 0, .int .i64 0, .int .i64 0, .int .i64 0, .int .i64 0, .int .i64 0] 29)
  have bL := ((Boxed.new w 3 (.int .i64 l)).alloc (.cells #[.int .i64 c] 3)).alloc (.cells #[.int .i64 0, .int .i64 0, .int .i64 0, .int .i64 0, .int .i64 0, .int .i64 0] 29)
  have bC := (Boxed.new (w.alloc (.cells #[.int .i64 l] 3)) 3 (.int .i64 c)).alloc (.cells #[.int .i64 0, .int .i64 0, .int .i64 0, .int .i64 0, .int .i64 0, .int .i64 0] 29)
  have b6 := Box6.new ((w.alloc (.cells #[.int .i64 l] 3)).alloc (.cells #[.int .i64 c] 3)) (.int .i64 0) (.int .i64 0) (.int .i64 0) (.int .i64 0) (.int .i64 0) (.int .i64 0)
  simp only [World.size_alloc] at bC b6
  obtain ⟨W3, hW3⟩ : ∃ W3, ((w.alloc (.cells #[.int .i64 l] 3)).alloc (.cells #[.int .i64 c] 3)).alloc (.cells #[.int .i64 0, .int .i64 0, .int .i64 0, .int .i64 0, .int .i64 0, .int .i64 0] 29) = W3 := ⟨_, rfl⟩
  rw [hW3] at hB3 bL bC b6
  have hf : ∀ i W, i ≤ pN s → Below W3.heap.size W3 W → Calls Try.prog 28 (#[spN s i] ++ #[.pointer (some ⟨w.heap.size, 0, none⟩), .pointer (some ⟨w.heap.size + 1, 0, none⟩)]) W fun e W' => e = .returned (.bool (cellP s l c i)) ∧ Below W.heap.size W W' :=
    fun i W _ hW => cell1_in _ _ _ _ _ _ l c _ _ W (boxed_below bL hW) (boxed_below bC hW)
  have hen : ∀ args w, (callFunc 28 args).run Try.prog w = .ok (.enter 28 args) w := enters_of Try.func28 (by kernel_rfl) rfl
  have hF := hide (first_yes s p (cellK s l c) 28 _ (cellP s l c) W3 hs (hm.below hB3) hen hf hk (fun i hi => cellK_no hi) (fun i h1 h2 => cellK_yes h1 h2))
  have Hwi := hide (fun (W : World) (h : Below W3.heap.size W3 W) => within_end s p (pB s (cellK s l c)) W hs (hm.below (bnext hB3 h)) (pB_le s _ hk))
  have HW := hide hW3
  rw [show spN s (cellK s l c) = .agg #[.int .i64 (pB s (cellK s l c) : Nat), .int .i64 (cellK s l c : Nat), .int .i64 (pU s (cellK s l c) : Nat), .int .i64 (pC s (cellK s l c) : Nat), .int .i64 (pL s (cellK s l c) : Nat), .int .i64 (pK s (cellK s l c) : Nat)] from rfl] at hF ⊢
  generalize pI s (pB s (cellK s l c)) = wi at Hwi ⊢
  generalize pB s (cellK s l c) = v0 at hF Hwi ⊢
  generalize pU s (cellK s l c) = v2 at hF ⊢
  generalize pC s (cellK s l c) = v3 at hF ⊢
  generalize pL s (cellK s l c) = v4 at hF ⊢
  generalize pK s (cellK s l c) = v5 at hF ⊢
  generalize cellK s l c = v1 at hF ⊢
  clear hf hen hB0 hs hm hk hW3
  by_cases h1 : ((v4 : Nat) : Int) = l
  · rw [decide_eq_true h1, Bool.true_and]
    subst h1
    by_cases h2 : ((v5 : Nat) : Int) = c
    · rw [decide_eq_true h2, Bool.true_and]
      subst h2
      cases wi with
      | true =>
        rw [if_neg (by decide)]
        go_enter Try.func11, Try.ntmps11
        go_wp2_with (first | (go_at_call 27; rw [unhide HW]; refine (unhide hF).mono ?_; rintro e w1 ⟨rfl, hb1⟩; have hbA := (Below.refl _ w1).alloc (Nat.le_refl _) (.cells #[.int .i64 (v0 : Nat), .int .i64 (v1 : Nat), .int .i64 (v2 : Nat), .int .i64 (v3 : Nat), .int .i64 (v4 : Nat), .int .i64 (v5 : Nat)] 29); obtain ⟨c0, c1, c2, c3, c4, c5, f0, f1, f2, f3, f4, f5⟩ := ((b6.below hb1).below hbA).facts; have dL := (boxed_below (boxed_below bL hb1) hbA).cell; have dC := (boxed_below (boxed_below bC hb1) hbA).cell; have hwi := hide (unhide Hwi _ (bnext hb1 hbA)); have hBA := hide (bnext (bnext hB3 hb1) hbA); clear hbA) | (go_at_call 29; refine (unhide hwi).mono ?_; rintro e w2 ⟨rfl, rfl⟩))
        refine bodyPost_ret (v := .tuple #[zeroV, .int .i64 3]) ?_ rfl ⟨rfl, ?_⟩
        · simp [results, Try.f11, go_sem, zeroV, spV, *]
        · exact bset6 (unhide hBA) (by omega) _ _ _ _ _ _
      | false =>
        rw [if_pos (by decide)]
        go_enter Try.func11, Try.ntmps11
        go_wp2_with (first | (go_at_call 27; rw [unhide HW]; refine (unhide hF).mono ?_; rintro e w1 ⟨rfl, hb1⟩; have hbA := (Below.refl _ w1).alloc (Nat.le_refl _) (.cells #[.int .i64 (v0 : Nat), .int .i64 (v1 : Nat), .int .i64 (v2 : Nat), .int .i64 (v3 : Nat), .int .i64 (v4 : Nat), .int .i64 (v5 : Nat)] 29); obtain ⟨c0, c1, c2, c3, c4, c5, f0, f1, f2, f3, f4, f5⟩ := ((b6.below hb1).below hbA).facts; have dL := (boxed_below (boxed_below bL hb1) hbA).cell; have dC := (boxed_below (boxed_below bC hb1) hbA).cell; have hwi := hide (unhide Hwi _ (bnext hb1 hbA)); have hBA := hide (bnext (bnext hB3 hb1) hbA); clear hbA) | (go_at_call 29; refine (unhide hwi).mono ?_; rintro e w2 ⟨rfl, rfl⟩))
        refine bodyPost_ret (v := .tuple #[.agg #[.int .i64 (v0 : Nat), .int .i64 (v1 : Nat), .int .i64 (v2 : Nat), .int .i64 (v3 : Nat), .int .i64 (v4 : Nat), .int .i64 (v5 : Nat)], .int .i64 0]) ?_ rfl ⟨rfl, ?_⟩
        · simp [results, Try.f11, go_sem, zeroV, spV, *]
        · exact bset6 (unhide hBA) (by omega) _ _ _ _ _ _
    · rw [decide_eq_false h2, Bool.false_and, if_neg (by decide)]
      go_enter Try.func11, Try.ntmps11
      go_wp2_with (first | (go_at_call 27; rw [unhide HW]; refine (unhide hF).mono ?_; rintro e w1 ⟨rfl, hb1⟩; have hbA := (Below.refl _ w1).alloc (Nat.le_refl _) (.cells #[.int .i64 (v0 : Nat), .int .i64 (v1 : Nat), .int .i64 (v2 : Nat), .int .i64 (v3 : Nat), .int .i64 (v4 : Nat), .int .i64 (v5 : Nat)] 29); obtain ⟨c0, c1, c2, c3, c4, c5, f0, f1, f2, f3, f4, f5⟩ := ((b6.below hb1).below hbA).facts; have dL := (boxed_below (boxed_below bL hb1) hbA).cell; have dC := (boxed_below (boxed_below bC hb1) hbA).cell; have hwi := hide (unhide Hwi _ (bnext hb1 hbA)); have hBA := hide (bnext (bnext hB3 hb1) hbA); clear hbA) | (go_at_call 29; refine (unhide hwi).mono ?_; rintro e w2 ⟨rfl, rfl⟩))
      refine bodyPost_ret (v := .tuple #[zeroV, .int .i64 3]) ?_ rfl ⟨rfl, ?_⟩
      · simp [results, Try.f11, go_sem, zeroV, spV, *]
      · exact bset6 (unhide hBA) (by omega) _ _ _ _ _ _
  · rw [decide_eq_false h1, Bool.false_and, if_neg (by decide)]
    go_enter Try.func11, Try.ntmps11
    go_wp2_with (first | (go_at_call 27; rw [unhide HW]; refine (unhide hF).mono ?_; rintro e w1 ⟨rfl, hb1⟩; have hbA := (Below.refl _ w1).alloc (Nat.le_refl _) (.cells #[.int .i64 (v0 : Nat), .int .i64 (v1 : Nat), .int .i64 (v2 : Nat), .int .i64 (v3 : Nat), .int .i64 (v4 : Nat), .int .i64 (v5 : Nat)] 29); obtain ⟨c0, c1, c2, c3, c4, c5, f0, f1, f2, f3, f4, f5⟩ := ((b6.below hb1).below hbA).facts; have dL := (boxed_below (boxed_below bL hb1) hbA).cell; have dC := (boxed_below (boxed_below bC hb1) hbA).cell; have hwi := hide (unhide Hwi _ (bnext hb1 hbA)); have hBA := hide (bnext (bnext hB3 hb1) hbA); clear hbA) | (go_at_call 29; refine (unhide hwi).mono ?_; rintro e w2 ⟨rfl, rfl⟩))
    refine bodyPost_ret (v := .tuple #[zeroV, .int .i64 3]) ?_ rfl ⟨rfl, ?_⟩
    · simp [results, Try.f11, go_sem, zeroV, spV, *]
    · exact bset6 (unhide hBA) (by omega) _ _ _ _ _ _

theorem cell_in (s : ByteArray) (p : Nat) (l c : Int) (w : World) (hs : s.size ≤ 1000000) (hm : MapAt s p w) :
    Calls Try.prog 11 #[.pointer (some ⟨p, 0, none⟩), .int .i64 l, .int .i64 c] w fun e w' => e = .returned (cellV s l c) ∧ Below w.heap.size w w' := by
  unfold cellV cellOK
  by_cases hk : cellK s l c ≤ pN s
  · rw [decide_eq_true hk, Bool.true_and]; exact cell_fnd s p l c w hs hm hk
  · rw [decide_eq_false hk, Bool.false_and, if_neg (by decide)]; exact cell_no s p l c w hs hm hk

set_option maxHeartbeats 1000000 in
theorem cell_none (l c : Int) (w : World) : Calls Try.prog 11 #[.pointer none, .int .i64 l, .int .i64 c] w fun e w' => e = .returned (.tuple #[zeroV, .int .i64 1]) ∧ Below w.heap.size w w' := by
  have hB0 : ∀ A B C : Obj, Below w.heap.size w (((w.alloc A).alloc B).alloc C) := fun A B C => (((Below.refl _ w).alloc (Nat.le_refl _) _).alloc (by simp) _).alloc (by simp; omega) _
  have hB3 := hB0 (.cells #[.int .i64 l] 3) (.cells #[.int .i64 c] 3) (.cells #[.int .i64 0, .int .i64 0, .int .i64 0, .int .i64 0, .int .i64 0, .int .i64 0] 29)
  have bL := ((Boxed.new w 3 (.int .i64 l)).alloc (.cells #[.int .i64 c] 3)).alloc (.cells #[.int .i64 0, .int .i64 0, .int .i64 0, .int .i64 0, .int .i64 0, .int .i64 0] 29)
  have bC := (Boxed.new (w.alloc (.cells #[.int .i64 l] 3)) 3 (.int .i64 c)).alloc (.cells #[.int .i64 0, .int .i64 0, .int .i64 0, .int .i64 0, .int .i64 0, .int .i64 0] 29)
  have b6 := Box6.new ((w.alloc (.cells #[.int .i64 l] 3)).alloc (.cells #[.int .i64 c] 3)) (.int .i64 0) (.int .i64 0) (.int .i64 0) (.int .i64 0) (.int .i64 0) (.int .i64 0)
  simp only [World.size_alloc] at bC b6
  obtain ⟨W3, hW3⟩ : ∃ W3, ((w.alloc (.cells #[.int .i64 l] 3)).alloc (.cells #[.int .i64 c] 3)).alloc (.cells #[.int .i64 0, .int .i64 0, .int .i64 0, .int .i64 0, .int .i64 0, .int .i64 0] 29) = W3 := ⟨_, rfl⟩
  rw [hW3] at hB3 bL bC b6
  obtain ⟨c0, c1, c2, c3, c4, c5, f0, f1, f2, f3, f4, f5⟩ := b6.facts
  clear hB0 b6 bL bC
  go_enter Try.func11, Try.ntmps11
  go_wp2
  refine bodyPost_ret (v := .tuple #[zeroV, .int .i64 1]) ?_ rfl ⟨rfl, ?_⟩
  · simp [results, Try.f11, go_sem, zeroV, spV, *]
  · exact bset6 hB3 (by omega) _ _ _ _ _ _

end Go.Proofs.Ytiakhpfljjfaeaa
