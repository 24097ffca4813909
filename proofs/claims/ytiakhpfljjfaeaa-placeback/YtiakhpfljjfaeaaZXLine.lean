/-
  Where a line begins; the line of a number.
-/
import Derived.Test.YtiakhpfljjfaeaaZXMap

set_option linter.unusedSimpArgs false
set_option linter.unusedVariables false
namespace Go.Proofs.Ytiakhpfljjfaeaa
open Go.RowKit Go.Lib

set_option maxHeartbeats 1000000 in
theorem lineAt1_in (b r u c l k n : Int) (bN : Nat) (w : World) (hN : Boxed w bN 3 (.int .i64 n)) :
    Calls Try.prog 54 #[.agg #[.int .i64 b, .int .i64 r, .int .i64 u, .int .i64 c, .int .i64 l, .int .i64 k], .pointer (some ⟨bN, 0, none⟩)] w fun e w' => e = .returned (.bool (decide (n ≤ l))) ∧ Below w.heap.size w w' := by
  have hB : ∀ A : Obj, Below w.heap.size w (w.alloc A) := fun A => (Below.refl _ w).alloc (Nat.le_refl _) _
  have c1 : ∀ A : Obj, (w.alloc A).cell? ⟨bN, 0, none⟩ = some (.int .i64 n) := fun A => (boxed_below hN (hB A)).cell
  go_enter Try.func54, Try.ntmps54
  go_wp2
  go_ret
  exact ⟨rfl, hB _⟩

set_option maxRecDepth 100000 in
set_option maxHeartbeats 2000000 in
theorem lineAt_in (s : ByteArray) (p : Nat) (n : Int) (w : World) (hs : s.size ≤ 1000000) (hm : MapAt s p w) :
    Calls Try.prog 34 #[.pointer (some ⟨p, 0, none⟩), .int .i64 n] w fun e w' => e = .returned (.int .i64 (lineB s n : Nat)) ∧ Below w.heap.size w w' := by
  have hB0 : Below w.heap.size w (w.alloc (.cells #[.int .i64 n] 3)) := (Below.refl _ w).alloc (Nat.le_refl _) _
  have bN := Boxed.new w 3 (.int .i64 n)
  have hf : ∀ i W, i ≤ pN s → Below (w.alloc (.cells #[.int .i64 n] 3)).heap.size (w.alloc (.cells #[.int .i64 n] 3)) W → Calls Try.prog 54 (#[spN s i] ++ #[.pointer (some ⟨w.heap.size, 0, none⟩)]) W fun e W' => e = .returned (.bool (decide (n ≤ (pL s i : Nat)))) ∧ Below W.heap.size W W' :=
    fun i W _ hW => lineAt1_in _ _ _ _ _ _ n _ W (boxed_below bN hW)
  have hen : ∀ args w, (callFunc 54 args).run Try.prog w = .ok (.enter 54 args) w := enters_of Try.func54 (by kernel_rfl) rfl
  by_cases hk : lineK s n ≤ pN s
  · have hF := hide (first_yes s p (lineK s n) 54 #[.pointer (some ⟨w.heap.size, 0, none⟩)] (fun i => decide (n ≤ (pL s i : Nat))) _ hs (hm.below hB0) hen hf hk (fun i hi => by have := lineK_low hi; exact decide_eq_false (by omega)) (fun i h1 h2 => decide_eq_true (lineK_up h1 (by omega))))
    have hl : lineB s n = pB s (lineK s n) := by unfold lineB; rw [if_pos hk]
    rw [hl]
    obtain ⟨v0, hv0⟩ : ∃ v0, pB s (lineK s n) = v0 := ⟨_, rfl⟩
    rw [show spN s (lineK s n) = .agg #[.int .i64 (pB s (lineK s n) : Nat), .int .i64 (lineK s n : Nat), .int .i64 (pU s (lineK s n) : Nat), .int .i64 (pC s (lineK s n) : Nat), .int .i64 (pL s (lineK s n) : Nat), .int .i64 (pK s (lineK s n) : Nat)] from rfl, hv0] at hF
    rw [hv0]
    generalize pU s (lineK s n) = v2 at hF
    generalize pC s (lineK s n) = v3 at hF
    generalize pL s (lineK s n) = v4 at hF
    generalize pK s (lineK s n) = v5 at hF
    generalize lineK s n = v1 at hF
    clear hf hl hv0 hk hs hm
    go_enter Try.func34, Try.ntmps34
    go_wp2_with (go_at_call 27; refine (unhide hF).mono ?_; rintro e w1 ⟨rfl, hb1⟩)
    go_ret
    exact ⟨rfl, (bnext hB0 hb1).alloc (bnext hB0 hb1).size _⟩
  · have h2 : ∀ i, i < pN s + 1 → decide (n ≤ (pL s i : Nat)) = false := fun i hi => by
      have := lineK_low (s := s) (n := n) (i := i) (by omega)
      exact decide_eq_false (by omega)
    have hF := hide (first_no s p 54 #[.pointer (some ⟨w.heap.size, 0, none⟩)] (fun i => decide (n ≤ (pL s i : Nat))) _ hs (hm.below hB0) hen hf h2)
    have hl : lineB s n = s.size := by unfold lineB; rw [if_neg hk]
    rw [hl]
    have hsz : s.size ≤ maxLen := by unfold maxLen; omega
    have ht : ∀ W, Below (w.alloc (.cells #[.int .i64 n] 3)).heap.size (w.alloc (.cells #[.int .i64 n] 3)) W → ∀ o, (W.alloc o).cell? ⟨p, 0, none⟩ = some (.string s) := fun W hW o => cell_below hm.1 (bnext (bnext hB0 hW) ((Below.refl _ W).alloc (Nat.le_refl _) _))
    have Ht := hide ht
    clear ht hf hl hk hs hm h2
    go_enter Try.func34, Try.ntmps34
    go_wp2_with (go_at_call 27; refine (unhide hF).mono ?_; rintro e w1 ⟨rfl, hb1⟩; have ct := unhide Ht w1 hb1)
    go_ret
    exact ⟨rfl, (bnext hB0 hb1).alloc (bnext hB0 hb1).size _⟩

end Go.Proofs.Ytiakhpfljjfaeaa

/-
  The line of a number.
-/
set_option linter.unusedSimpArgs false
set_option linter.unusedVariables false
namespace Go.Proofs.Ytiakhpfljjfaeaa
open Go.RowKit Go.Lib

def lineV (s : ByteArray) (n : Int) : Value := if n < 1 ∨ (pL s (pN s) : Nat) < n then .tuple #[.string ⟨#[]⟩, .int .i64 3] else .tuple #[.string (s.extract (lineB s n) (lineB s (n + 1))), .int .i64 0]

set_option maxRecDepth 100000 in
set_option maxHeartbeats 2000000 in
theorem line_yes (s : ByteArray) (p : Nat) (n : Int) (w : World) (hs : s.size ≤ 1000000) (hm : MapAt s p w) (h1 : 1 ≤ n) (h2 : n ≤ (pL s (pN s) : Nat)) :
    Calls Try.prog 15 #[.pointer (some ⟨p, 0, none⟩), .int .i64 n] w fun e w' => e = .returned (.tuple #[.string (s.extract (lineB s n) (lineB s (n + 1))), .int .i64 0]) ∧ Below w.heap.size w w' := by
  have hL := hide (lines_in s p w hs hm)
  have hN := pN_le s
  have hle := (pL_le s (pN s)).2
  obtain ⟨M, hM⟩ : ∃ M, pL s (pN s) = M := ⟨_, rfl⟩
  rw [hM] at hL h2 hle
  have i1 : ¬ n < 1 := by omega
  have i2 : ¬ (M : Int) < n := by omega
  have Hs := hide hs
  have Hm := hide hm
  have Hle := hide hle
  clear hM hs hm hle
  go_enter Try.func15, Try.ntmps15
  go_wp2_with (go_at_call 16; refine (unhide hL).mono ?_; rintro e w1 ⟨rfl, hb1⟩)
  refine wp_region_any (by kernel_rfl) ?_
  change wpAny _ _ _ _ _ _ _ (World.drew _)
  refine region_inv 30 (fun j => if j = 12 then 4 else if j = 13 then 5 else 18 + j) [(0, .pointer (some ⟨p, 0, none⟩)), (1, .int .i64 n)]
    (fun W => Below w.heap.size w W)
    (valsOf [isV (.pointer (some ⟨p, 0, none⟩)), isV (.pointer (some ⟨p, 0, none⟩)), isV (.pointer (some ⟨p, 0, none⟩)), isV (.string s), isV (.pointer (some ⟨p, 0, none⟩)), isV (.int .i64 n), isV (.int .i64 (lineB s n : Nat)), isV (.pointer (some ⟨p, 0, none⟩)), isV (.int .i64 n), isV (.int .i64 (n + 1)), isV (.int .i64 (lineB s (n + 1) : Nat)), isV (.string (s.extract (lineB s n) (lineB s (n + 1)))), isV (.string (s.extract (lineB s n) (lineB s (n + 1)))), isV (.int .i64 0)])
    (fun w w' => Below w.heap.size w w') ?fit (fun w1 w2 h hG => h.trans (hG.mono h.size)) (valsOf_stable ?stable) [] ?gs ?gv ?steps ?fin _ _ ?sz rfl ?base ?start
  case fit => kernel_rfl
  case sz => rfl
  case gs => kernel_rfl
  case gv => intro p hp w v hv; cases hp
  case base => intro p hp; simp at hp; rcases hp with rfl | rfl <;> rfl
  case stable => exact Stables.all (by repeat (first | exact .nil | refine .same ?_))
  case start => exact hb1.drew
  case steps =>
    refine .cons (fun ρ w1 hρ hJ hb hd => step_move (.tmp 0) rfl ⟨Below.refl _ _, hb (0, _) (.head _)⟩) ?_
    refine .cons (fun ρ w1 hρ hJ hb hd => by
      have d1 : ρ (.tmp 18) = .pointer (some ⟨p, 0, none⟩) := hd 0 _ rfl rfl
      exact step_val (v := .pointer (some ⟨p, 0, none⟩)) (w' := w1) (by simp [go_sem, execOp, d1]) ⟨Below.refl _ _, rfl⟩) ?_
    refine .cons (fun ρ w1 hρ hJ hb hd => by
      have d1 : ρ (.tmp 19) = .pointer (some ⟨p, 0, none⟩) := hd 0 _ rfl rfl
      exact step_val (v := .pointer (some ⟨p, 0, none⟩)) (w' := w1) (by simp [go_sem, execOp, d1]) ⟨Below.refl _ _, rfl⟩) ?_
    refine .cons (fun ρ w1 hρ hJ hb hd => by
      have d1 : ρ (.tmp 20) = .pointer (some ⟨p, 0, none⟩) := hd 0 _ rfl rfl
      have c1 := cell_below (unhide Hm).1 hJ
      exact step_val (v := .string s) (w' := w1) (by simp [go_sem, execOp, d1, c1]) ⟨Below.refl _ _, rfl⟩) ?_
    refine .cons (fun ρ w1 hρ hJ hb hd => step_move (.tmp 0) rfl ⟨Below.refl _ _, hb (0, _) (.head _)⟩) ?_
    refine .cons (fun ρ w1 hρ hJ hb hd => step_move (.tmp 1) rfl ⟨Below.refl _ _, hb (1, _) (.tail _ (.head _))⟩) ?_
    refine .cons (fun ρ w1 hρ hJ hb hd => by
      have d1 : ρ (.tmp 22) = .pointer (some ⟨p, 0, none⟩) := hd 0 _ rfl rfl
      have d2 : ρ (.tmp 23) = .int .i64 n := hd 1 _ rfl rfl
      refine step_func 34 _ _ #[.pointer (some ⟨p, 0, none⟩), .int .i64 n] hρ rfl (enters_of Try.func34 (by kernel_rfl) rfl) (by simp [d1, d2]) ((lineAt_in s p n w1 (unhide Hs) ((unhide Hm).below hJ)).mono ?_)
      rintro e w2 ⟨rfl, hb2⟩
      exact ⟨_, rfl, hb2, rfl⟩) ?_
    refine .cons (fun ρ w1 hρ hJ hb hd => step_move (.tmp 0) rfl ⟨Below.refl _ _, hb (0, _) (.head _)⟩) ?_
    refine .cons (fun ρ w1 hρ hJ hb hd => step_move (.tmp 1) rfl ⟨Below.refl _ _, hb (1, _) (.tail _ (.head _))⟩) ?_
    refine .cons (fun ρ w1 hρ hJ hb hd => by
      have d1 : ρ (.tmp 26) = .int .i64 n := hd 0 _ rfl rfl
      refine step_val (v := .int .i64 (n + 1)) (w' := w1) ?_ ⟨Below.refl _ _, rfl⟩
      simp [go_sem, execOp, d1, hρ.const]
      exact wrap_small (by omega) (by have := unhide Hle; have := unhide Hs; omega)) ?_
    refine .cons (fun ρ w1 hρ hJ hb hd => by
      have d1 : ρ (.tmp 25) = .pointer (some ⟨p, 0, none⟩) := hd 0 _ rfl rfl
      have d2 : ρ (.tmp 27) = .int .i64 (n + 1) := hd 1 _ rfl rfl
      refine step_func 34 _ _ #[.pointer (some ⟨p, 0, none⟩), .int .i64 (n + 1)] hρ rfl (enters_of Try.func34 (by kernel_rfl) rfl) (by simp [d1, d2]) ((lineAt_in s p (n + 1) w1 (unhide Hs) ((unhide Hm).below hJ)).mono ?_)
      rintro e w2 ⟨rfl, hb2⟩
      exact ⟨_, rfl, hb2, rfl⟩) ?_
    refine .cons (fun ρ w1 hρ hJ hb hd => by
      have d1 : ρ (.tmp 21) = .string s := hd 0 _ rfl rfl
      have d2 : ρ (.tmp 24) = .int .i64 (lineB s n : Nat) := hd 1 _ rfl rfl
      have d3 : ρ (.tmp 28) = .int .i64 (lineB s (n + 1) : Nat) := hd 2 _ rfl rfl
      have j1 : (lineB s n : Int) ≤ (lineB s (n + 1) : Int) := by have := lineB_mono (s := s) (show n ≤ n + 1 by omega); omega
      have j2 : (lineB s (n + 1) : Int) ≤ (s.size : Int) := by have := lineB_le s (n + 1); omega
      exact step_val (v := .string (s.extract (lineB s n) (lineB s (n + 1)))) (w' := w1) (by simp [go_sem, execOp, d1, d2, d3, j1, j2]) ⟨Below.refl _ _, rfl⟩) ?_
    refine .cons (fun ρ w1 hρ hJ hb hd => step_assign (.tmp 29) rfl ⟨Below.refl _ _, (hd 0 _ rfl rfl : ρ (.tmp 29) = .string (s.extract (lineB s n) (lineB s (n + 1))))⟩) ?_
    refine .cons (fun ρ w1 hρ hJ hb hd => step_assign (.const (.int .i64 0)) rfl ⟨Below.refl _ _, hρ.const _⟩) (.nil _)
  case fin =>
    intro a W hsz hds hJ hv
    have h4 : a.eval (.tmp 4) = .string (s.extract (lineB s n) (lineB s (n + 1))) := hv 12 (by decide)
    have h5 : a.eval (.tmp 5) = .int .i64 0 := hv 13 (by decide)
    clear hv
    go_wp2
    refine bodyPost_ret (v := .tuple #[.string (s.extract (lineB s n) (lineB s (n + 1))), .int .i64 0]) ?_ hds ⟨rfl, hJ⟩
    have h4s := eval_some (a := a) (t := 4) (by omega)
    have h5s := eval_some (a := a) (t := 5) (by omega)
    rw [h4] at h4s
    rw [h5] at h5s
    simp [results, Try.f15, h4s, h5s]

set_option maxRecDepth 100000 in
set_option maxHeartbeats 2000000 in
theorem line_no (s : ByteArray) (p : Nat) (n : Int) (w : World) (hs : s.size ≤ 1000000) (hm : MapAt s p w) (h : n < 1 ∨ (pL s (pN s) : Nat) < n) :
    Calls Try.prog 15 #[.pointer (some ⟨p, 0, none⟩), .int .i64 n] w fun e w' => e = .returned (.tuple #[.string ⟨#[]⟩, .int .i64 3]) ∧ Below w.heap.size w w' := by
  have hL := hide (lines_in s p w hs hm)
  obtain ⟨M, hM⟩ : ∃ M, pL s (pN s) = M := ⟨_, rfl⟩
  rw [hM] at hL h
  clear hM hs hm
  by_cases h1 : n < 1
  · clear h
    go_enter Try.func15, Try.ntmps15
    go_wp2
    go_ret2
    exact ⟨rfl, Below.refl _ _⟩
  · have h2 : (M : Int) < n := by omega
    clear h
    go_enter Try.func15, Try.ntmps15
    go_wp2_with (go_at_call 16; refine (unhide hL).mono ?_; rintro e w1 ⟨rfl, hb1⟩)
    go_ret2
    exact ⟨rfl, hb1⟩

theorem line_in (s : ByteArray) (p : Nat) (n : Int) (w : World) (hs : s.size ≤ 1000000) (hm : MapAt s p w) :
    Calls Try.prog 15 #[.pointer (some ⟨p, 0, none⟩), .int .i64 n] w fun e w' => e = .returned (lineV s n) ∧ Below w.heap.size w w' := by
  unfold lineV
  by_cases h : n < 1 ∨ (pL s (pN s) : Nat) < n
  · rw [if_pos h]; exact line_no s p n w hs hm h
  · rw [if_neg h]; exact line_yes s p n w hs hm (by omega) (by omega)

set_option maxHeartbeats 1000000 in
theorem line_none (n : Int) (w : World) : Calls Try.prog 15 #[.pointer none, .int .i64 n] w fun e w' => e = .returned (.tuple #[.string ⟨#[]⟩, .int .i64 1]) ∧ Below w.heap.size w w' := by
  go_enter Try.func15, Try.ntmps15
  go_wp2
  go_ret2
  exact ⟨rfl, Below.refl _ _⟩

end Go.Proofs.Ytiakhpfljjfaeaa
