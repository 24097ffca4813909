/-
  Chapter 6's law StampCompares returns true for every two identifiers and every number, and leaves its arguments as they were; no condition.
-/
import Derived.Test.YtnellneckbilaaaRows
import Derived.WalkKit
import Derived.ProofKit
import Derived.OpenShut
import Derived.ShutString
import Derived.ChangeOld
import Derived.Below
import Derived.Test.YtnellneckbilaaaZKN
import Derived.Test.YtnellneckbilaaaZOp
set_option linter.unusedVariables false
set_option linter.unusedSimpArgs false
namespace Go.Proofs.Ytnellneckbilaaa
namespace LStampCompares
open Go.ChangeShapes Go.WideShapes Go.ChangeAt Go.RowKit Go.Lib
open Go.ChangeMaps (open_string shut_string)

theorem cmpI_three (x y : Int × Int) : cmpI x y = -1 ∨ cmpI x y = 0 ∨ cmpI x y = 1 := by
  unfold cmpI
  split
  · exact .inr (.inl rfl)
  · split
    · exact .inl rfl
    · exact .inr (.inr rfl)
theorem cmp_self (a b : Int) : cmpI (a, b) (a, b) = 0 := by unfold cmpI; rw [if_pos rfl]
theorem cmp_neg {a b c d : Int} : cmpI (c, d) (a, b) = -(cmpI (a, b) (c, d)) := by
  unfold cmpI
  simp only [Prod.mk.injEq]
  split <;> split <;> (try split) <;> (try split) <;> omega

set_option maxRecDepth 100000 in
set_option maxHeartbeats 4000000 in
theorem walk (a b c d n : Int) (w : World) (ha : idIn (a, b)) (hc : idIn (c, d)) (hn : (Lit.int .i64 n).wf = true) :
    Calls Try.prog 3 #[.agg #[.int .i64 a, .int .i64 b], .agg #[.int .i64 c, .int .i64 d], .int .i64 n] w fun e W => e = .returned (.bool true) ∧ Below w.heap.size w W := by
  go_enter Try.func3, Try.ntmps3
  go_wp2
  refine wp_region_any (by kernel_rfl) ?_
  change wpAny _ _ _ _ _ _ _ (World.drew _)
  have hb0 := (Bx.new w 23 #[.int .i64 a, .int .i64 b]).below (ballc (Below.refl _ _) (.cells #[.int .i64 c, .int .i64 d] 23))
  have hb1 := Bx.new (w.alloc (.cells #[.int .i64 a, .int .i64 b] 23)) 23 #[.int .i64 c, .int .i64 d]
  rw [show (w.alloc (.cells #[.int .i64 a, .int .i64 b] 23)).heap.size = w.heap.size + 1 by simp] at hb1
  have hw2 := ballc (ballc (Below.refl _ w) (.cells #[.int .i64 a, .int .i64 b] 23)) (.cells #[.int .i64 c, .int .i64 d] 23)
  generalize (w.alloc (.cells #[.int .i64 a, .int .i64 b] 23)).alloc (.cells #[.int .i64 c, .int .i64 d] 23) = w2 at *
  have hA : ∀ W, Below w2.heap.size w2 W → W.cell? ⟨w.heap.size, 0, none⟩ = some (.int .i64 a) ∧ W.cell? ⟨w.heap.size, 1, none⟩ = some (.int .i64 b) := fun W h => ⟨(hb0.below h).cell 0 _ rfl, (hb0.below h).cell 1 _ rfl⟩
  have hB : ∀ W, Below w2.heap.size w2 W → W.cell? ⟨w.heap.size + 1, 0, none⟩ = some (.int .i64 c) ∧ W.cell? ⟨w.heap.size + 1, 1, none⟩ = some (.int .i64 d) := fun W h => ⟨(hb1.below h).cell 0 _ rfl, (hb1.below h).cell 1 _ rfl⟩
  refine region_inv 51 (fun j => if j = 44 then 6 else 7 + j) [(2, (.int .i64 n)), (3, (.pointer (some ⟨w.heap.size, 0, none⟩))), (4, (.pointer (some ⟨w.heap.size + 1, 0, none⟩)))]
    (fun W => Below w2.heap.size w2 W)
    (valsOf (isV (.agg #[.int .i64 a, .int .i64 b]) :: isV (.agg #[.int .i64 c, .int .i64 d]) :: isV (.int .i64 (cmpI (a, b) (c, d))) :: isV (.agg #[.int .i64 a, .int .i64 b]) :: isV (.agg #[.int .i64 c, .int .i64 d]) :: isV (.int .i64 (cmpI (a, b) (c, d))) :: isV (.bool true) :: isV (.bool true) :: isV (.agg #[.int .i64 c, .int .i64 d]) :: isV (.agg #[.int .i64 a, .int .i64 b]) :: isV (.int .i64 (cmpI (c, d) (a, b))) :: isV (.agg #[.int .i64 a, .int .i64 b]) :: isV (.agg #[.int .i64 c, .int .i64 d]) :: isV (.int .i64 (cmpI (a, b) (c, d))) :: isV (.int .i64 (-(cmpI (a, b) (c, d)))) :: isV (.bool true) :: isV (.bool true) :: isV (.bool true) :: isV (.agg #[.int .i64 a, .int .i64 b]) :: isV (.agg #[.int .i64 a, .int .i64 b]) :: isV (.int .i64 0) :: isV (.bool true) :: isV (.bool true) :: isV (.bool true) :: isV (.agg #[.int .i64 a, .int .i64 b]) :: isV (.int .i64 n) :: isV (.agg #[.int .i64 (aft (a, b) n).1, .int .i64 (aft (a, b) n).2]) :: isV (.agg #[.int .i64 a, .int .i64 b]) :: isV (.int .i64 n) :: isV (.agg #[.int .i64 (aft (a, b) n).1, .int .i64 (aft (a, b) n).2]) :: isV (.bool true) :: isV (.bool true) :: isV (.bool true) :: isV (.agg #[.int .i64 c, .int .i64 d]) :: isV (.int .i64 n) :: isV (.agg #[.int .i64 (aft (c, d) n).1, .int .i64 (aft (c, d) n).2]) :: isV (.agg #[.int .i64 c, .int .i64 d]) :: isV (.int .i64 n) :: isV (.agg #[.int .i64 (aft (c, d) n).1, .int .i64 (aft (c, d) n).2]) :: isV (.bool true) :: isV (.bool true) :: isV (.bool true) :: isV (.bool true) :: isV (.bool true) :: isV (.bool true) :: []))
    (fun w w' => Below w.heap.size w w') ?fit (fun w1 w2 h hG => h.trans (hG.mono h.size)) (valsOf_stable ?stable) [(7, true), (17, true), (23, true), (32, true), (41, true)] ?gs ?gv ?steps ?fin _ _ ?sz rfl ?base ?start
  case fit => kernel_rfl
  case sz => rfl
  case gs => kernel_rfl
  case gv => intro p hp w v hv; simp only [List.mem_cons, List.not_mem_nil, or_false] at hp; rcases hp with rfl | rfl | rfl | rfl | rfl <;> exact hv
  case base => intro p hp; repeat (first | (rcases List.mem_cons.1 hp with rfl | hp; · rfl) | cases hp)
  case stable => exact Stables.all (by repeat (first | exact .nil | refine .same ?_))
  case start => exact (Below.refl _ _).drew
  case steps =>
    refine .cons (fun ρ wz hρ hJ hb hd => by
      have d0 : ρ (.tmp 3) = (.pointer (some ⟨w.heap.size, 0, none⟩)) := hb (3, _) (List.mem_of_getElem? (i := 1) rfl)
      obtain ⟨x0, x1⟩ := hA wz hJ
      exact step_val (v := (.agg #[.int .i64 a, .int .i64 b])) (w' := wz) (by simp [go_sem, execOp, d0, x0, x1]) ⟨Below.refl _ _, rfl⟩) ?_
    refine .cons (fun ρ wz hρ hJ hb hd => by
      have d0 : ρ (.tmp 4) = (.pointer (some ⟨w.heap.size + 1, 0, none⟩)) := hb (4, _) (List.mem_of_getElem? (i := 2) rfl)
      obtain ⟨x0, x1⟩ := hB wz hJ
      exact step_val (v := (.agg #[.int .i64 c, .int .i64 d])) (w' := wz) (by simp [go_sem, execOp, d0, x0, x1]) ⟨Below.refl _ _, rfl⟩) ?_
    refine .cons (fun ρ wz hρ hJ hb hd => by
      have d0 : ρ (.tmp 7) = (.agg #[.int .i64 a, .int .i64 b]) := hd 0 _ rfl rfl
      have d1 : ρ (.tmp 8) = (.agg #[.int .i64 c, .int .i64 d]) := hd 1 _ rfl rfl
      refine step_func 9 _ _ #[(.agg #[.int .i64 a, .int .i64 b]), (.agg #[.int .i64 c, .int .i64 d])] hρ rfl (enters_of Try.func9 (by kernel_rfl) rfl) (by simp [d0, d1]) ?_
      refine (Compare_in a b c d wz).mono ?_
      rintro e W' ⟨rfl, hg⟩
      exact ⟨_, rfl, GrW.below hg, rfl⟩) ?_
    refine .cons (fun ρ wz hρ hJ hb hd => by
      have d0 : ρ (.tmp 3) = (.pointer (some ⟨w.heap.size, 0, none⟩)) := hb (3, _) (List.mem_of_getElem? (i := 1) rfl)
      obtain ⟨x0, x1⟩ := hA wz hJ
      exact step_val (v := (.agg #[.int .i64 a, .int .i64 b])) (w' := wz) (by simp [go_sem, execOp, d0, x0, x1]) ⟨Below.refl _ _, rfl⟩) ?_
    refine .cons (fun ρ wz hρ hJ hb hd => by
      have d0 : ρ (.tmp 4) = (.pointer (some ⟨w.heap.size + 1, 0, none⟩)) := hb (4, _) (List.mem_of_getElem? (i := 2) rfl)
      obtain ⟨x0, x1⟩ := hB wz hJ
      exact step_val (v := (.agg #[.int .i64 c, .int .i64 d])) (w' := wz) (by simp [go_sem, execOp, d0, x0, x1]) ⟨Below.refl _ _, rfl⟩) ?_
    refine .cons (fun ρ wz hρ hJ hb hd => by
      have d0 : ρ (.tmp 10) = (.agg #[.int .i64 a, .int .i64 b]) := hd 0 _ rfl rfl
      have d1 : ρ (.tmp 11) = (.agg #[.int .i64 c, .int .i64 d]) := hd 1 _ rfl rfl
      refine step_func 10 _ _ #[(.agg #[.int .i64 a, .int .i64 b]), (.agg #[.int .i64 c, .int .i64 d])] hρ rfl (enters_of Try.func10 (by kernel_rfl) rfl) (by simp [d0, d1]) ?_
      refine (refCompare_in a b c d wz).mono ?_
      rintro e W' ⟨rfl, hg⟩
      exact ⟨_, rfl, hg, rfl⟩) ?_
    refine .cons (fun ρ wz hρ hJ hb hd => by
      have d0 : ρ (.tmp 9) = (.int .i64 (cmpI (a, b) (c, d))) := hd 0 _ rfl rfl
      have d1 : ρ (.tmp 12) = (.int .i64 (cmpI (a, b) (c, d))) := hd 1 _ rfl rfl
      exact step_val (v := (.bool true)) (w' := wz) (by simp [go_sem, execOp, d0, d1, hρ.const]) ⟨Below.refl _ _, rfl⟩) ?_
    refine .cons (fun ρ wz hρ hJ hb hd => by
      have d0 : ρ (.tmp 13) = (.bool true) := hd 0 _ rfl rfl
      exact step_move (.tmp 13) rfl ⟨Below.refl _ _, d0⟩) ?_
    refine .cons (fun ρ wz hρ hJ hb hd => by
      have d0 : ρ (.tmp 4) = (.pointer (some ⟨w.heap.size + 1, 0, none⟩)) := hb (4, _) (List.mem_of_getElem? (i := 2) rfl)
      obtain ⟨x0, x1⟩ := hB wz hJ
      exact step_val (v := (.agg #[.int .i64 c, .int .i64 d])) (w' := wz) (by simp [go_sem, execOp, d0, x0, x1]) ⟨Below.refl _ _, rfl⟩) ?_
    refine .cons (fun ρ wz hρ hJ hb hd => by
      have d0 : ρ (.tmp 3) = (.pointer (some ⟨w.heap.size, 0, none⟩)) := hb (3, _) (List.mem_of_getElem? (i := 1) rfl)
      obtain ⟨x0, x1⟩ := hA wz hJ
      exact step_val (v := (.agg #[.int .i64 a, .int .i64 b])) (w' := wz) (by simp [go_sem, execOp, d0, x0, x1]) ⟨Below.refl _ _, rfl⟩) ?_
    refine .cons (fun ρ wz hρ hJ hb hd => by
      have d0 : ρ (.tmp 15) = (.agg #[.int .i64 c, .int .i64 d]) := hd 0 _ rfl rfl
      have d1 : ρ (.tmp 16) = (.agg #[.int .i64 a, .int .i64 b]) := hd 1 _ rfl rfl
      refine step_func 9 _ _ #[(.agg #[.int .i64 c, .int .i64 d]), (.agg #[.int .i64 a, .int .i64 b])] hρ rfl (enters_of Try.func9 (by kernel_rfl) rfl) (by simp [d0, d1]) ?_
      refine (Compare_in c d a b wz).mono ?_
      rintro e W' ⟨rfl, hg⟩
      exact ⟨_, rfl, GrW.below hg, rfl⟩) ?_
    refine .cons (fun ρ wz hρ hJ hb hd => by
      have d0 : ρ (.tmp 3) = (.pointer (some ⟨w.heap.size, 0, none⟩)) := hb (3, _) (List.mem_of_getElem? (i := 1) rfl)
      obtain ⟨x0, x1⟩ := hA wz hJ
      exact step_val (v := (.agg #[.int .i64 a, .int .i64 b])) (w' := wz) (by simp [go_sem, execOp, d0, x0, x1]) ⟨Below.refl _ _, rfl⟩) ?_
    refine .cons (fun ρ wz hρ hJ hb hd => by
      have d0 : ρ (.tmp 4) = (.pointer (some ⟨w.heap.size + 1, 0, none⟩)) := hb (4, _) (List.mem_of_getElem? (i := 2) rfl)
      obtain ⟨x0, x1⟩ := hB wz hJ
      exact step_val (v := (.agg #[.int .i64 c, .int .i64 d])) (w' := wz) (by simp [go_sem, execOp, d0, x0, x1]) ⟨Below.refl _ _, rfl⟩) ?_
    refine .cons (fun ρ wz hρ hJ hb hd => by
      have d0 : ρ (.tmp 18) = (.agg #[.int .i64 a, .int .i64 b]) := hd 0 _ rfl rfl
      have d1 : ρ (.tmp 19) = (.agg #[.int .i64 c, .int .i64 d]) := hd 1 _ rfl rfl
      refine step_func 9 _ _ #[(.agg #[.int .i64 a, .int .i64 b]), (.agg #[.int .i64 c, .int .i64 d])] hρ rfl (enters_of Try.func9 (by kernel_rfl) rfl) (by simp [d0, d1]) ?_
      refine (Compare_in a b c d wz).mono ?_
      rintro e W' ⟨rfl, hg⟩
      exact ⟨_, rfl, GrW.below hg, rfl⟩) ?_
    refine .cons (fun ρ wz hρ hJ hb hd => by
      have d0 : ρ (.tmp 20) = (.int .i64 (cmpI (a, b) (c, d))) := hd 0 _ rfl rfl
      exact step_val (v := (.int .i64 (-(cmpI (a, b) (c, d))))) (w' := wz) (by rcases cmpI_three (a, b) (c, d) with h | h | h <;> rw [h] at d0 ⊢ <;> simp [go_sem, execOp, d0] <;> rfl) ⟨Below.refl _ _, rfl⟩) ?_
    refine .cons (fun ρ wz hρ hJ hb hd => by
      have d0 : ρ (.tmp 17) = (.int .i64 (cmpI (c, d) (a, b))) := hd 0 _ rfl rfl
      have d1 : ρ (.tmp 21) = (.int .i64 (-(cmpI (a, b) (c, d)))) := hd 1 _ rfl rfl
      rw [cmp_neg] at d0
      exact step_val (v := (.bool true)) (w' := wz) (by simp [go_sem, execOp, d0, d1]) ⟨Below.refl _ _, rfl⟩) ?_
    refine .cons (fun ρ wz hρ hJ hb hd => by
      have d0 : ρ (.tmp 14) = (.bool true) := hd 0 _ rfl rfl
      have d1 : ρ (.tmp 22) = (.bool true) := hd 1 _ rfl rfl
      exact step_val (v := (.bool true)) (w' := wz) (by simp [go_sem, execOp, d0, d1, hρ.const]) ⟨Below.refl _ _, rfl⟩) ?_
    refine .cons (fun ρ wz hρ hJ hb hd => by
      have d0 : ρ (.tmp 23) = (.bool true) := hd 0 _ rfl rfl
      exact step_move (.tmp 23) rfl ⟨Below.refl _ _, d0⟩) ?_
    refine .cons (fun ρ wz hρ hJ hb hd => by
      have d0 : ρ (.tmp 3) = (.pointer (some ⟨w.heap.size, 0, none⟩)) := hb (3, _) (List.mem_of_getElem? (i := 1) rfl)
      obtain ⟨x0, x1⟩ := hA wz hJ
      exact step_val (v := (.agg #[.int .i64 a, .int .i64 b])) (w' := wz) (by simp [go_sem, execOp, d0, x0, x1]) ⟨Below.refl _ _, rfl⟩) ?_
    refine .cons (fun ρ wz hρ hJ hb hd => by
      have d0 : ρ (.tmp 3) = (.pointer (some ⟨w.heap.size, 0, none⟩)) := hb (3, _) (List.mem_of_getElem? (i := 1) rfl)
      obtain ⟨x0, x1⟩ := hA wz hJ
      exact step_val (v := (.agg #[.int .i64 a, .int .i64 b])) (w' := wz) (by simp [go_sem, execOp, d0, x0, x1]) ⟨Below.refl _ _, rfl⟩) ?_
    refine .cons (fun ρ wz hρ hJ hb hd => by
      have d0 : ρ (.tmp 25) = (.agg #[.int .i64 a, .int .i64 b]) := hd 0 _ rfl rfl
      have d1 : ρ (.tmp 26) = (.agg #[.int .i64 a, .int .i64 b]) := hd 1 _ rfl rfl
      refine step_func 9 _ _ #[(.agg #[.int .i64 a, .int .i64 b]), (.agg #[.int .i64 a, .int .i64 b])] hρ rfl (enters_of Try.func9 (by kernel_rfl) rfl) (by simp [d0, d1]) ?_
      refine (Compare_in a b a b wz).mono ?_
      rintro e W' ⟨rfl, hg⟩
      exact ⟨_, rfl, GrW.below hg, by rw [cmp_self]; rfl⟩) ?_
    refine .cons (fun ρ wz hρ hJ hb hd => by
      have d0 : ρ (.tmp 27) = (.int .i64 0) := hd 0 _ rfl rfl
      exact step_val (v := (.bool true)) (w' := wz) (by simp [go_sem, execOp, d0, hρ.const]) ⟨Below.refl _ _, rfl⟩) ?_
    refine .cons (fun ρ wz hρ hJ hb hd => by
      have d0 : ρ (.tmp 24) = (.bool true) := hd 0 _ rfl rfl
      have d1 : ρ (.tmp 28) = (.bool true) := hd 1 _ rfl rfl
      exact step_val (v := (.bool true)) (w' := wz) (by simp [go_sem, execOp, d0, d1, hρ.const]) ⟨Below.refl _ _, rfl⟩) ?_
    refine .cons (fun ρ wz hρ hJ hb hd => by
      have d0 : ρ (.tmp 29) = (.bool true) := hd 0 _ rfl rfl
      exact step_move (.tmp 29) rfl ⟨Below.refl _ _, d0⟩) ?_
    refine .cons (fun ρ wz hρ hJ hb hd => by
      have d0 : ρ (.tmp 3) = (.pointer (some ⟨w.heap.size, 0, none⟩)) := hb (3, _) (List.mem_of_getElem? (i := 1) rfl)
      obtain ⟨x0, x1⟩ := hA wz hJ
      exact step_val (v := (.agg #[.int .i64 a, .int .i64 b])) (w' := wz) (by simp [go_sem, execOp, d0, x0, x1]) ⟨Below.refl _ _, rfl⟩) ?_
    refine .cons (fun ρ wz hρ hJ hb hd => by
      have d0 : ρ (.tmp 2) = (.int .i64 n) := hb (2, _) (List.mem_of_getElem? (i := 0) rfl)
      exact step_move (.tmp 2) rfl ⟨Below.refl _ _, d0⟩) ?_
    refine .cons (fun ρ wz hρ hJ hb hd => by
      have d0 : ρ (.tmp 31) = (.agg #[.int .i64 a, .int .i64 b]) := hd 0 _ rfl rfl
      have d1 : ρ (.tmp 32) = (.int .i64 n) := hd 1 _ rfl rfl
      refine step_func 11 _ _ #[(.agg #[.int .i64 a, .int .i64 b]), (.int .i64 n)] hρ rfl (enters_of Try.func11 (by kernel_rfl) rfl) (by simp [d0, d1]) ?_
      refine (After_in a b n wz).mono ?_
      rintro e W' ⟨rfl, hg⟩
      exact ⟨_, rfl, hg, rfl⟩) ?_
    refine .cons (fun ρ wz hρ hJ hb hd => by
      have d0 : ρ (.tmp 3) = (.pointer (some ⟨w.heap.size, 0, none⟩)) := hb (3, _) (List.mem_of_getElem? (i := 1) rfl)
      obtain ⟨x0, x1⟩ := hA wz hJ
      exact step_val (v := (.agg #[.int .i64 a, .int .i64 b])) (w' := wz) (by simp [go_sem, execOp, d0, x0, x1]) ⟨Below.refl _ _, rfl⟩) ?_
    refine .cons (fun ρ wz hρ hJ hb hd => by
      have d0 : ρ (.tmp 2) = (.int .i64 n) := hb (2, _) (List.mem_of_getElem? (i := 0) rfl)
      exact step_move (.tmp 2) rfl ⟨Below.refl _ _, d0⟩) ?_
    refine .cons (fun ρ wz hρ hJ hb hd => by
      have d0 : ρ (.tmp 34) = (.agg #[.int .i64 a, .int .i64 b]) := hd 0 _ rfl rfl
      have d1 : ρ (.tmp 35) = (.int .i64 n) := hd 1 _ rfl rfl
      refine step_func 12 _ _ #[(.agg #[.int .i64 a, .int .i64 b]), (.int .i64 n)] hρ rfl (enters_of Try.func12 (by kernel_rfl) rfl) (by simp [d0, d1]) ?_
      refine (refAfter_in a b n wz).mono ?_
      rintro e W' ⟨rfl, hg⟩
      exact ⟨_, rfl, hg, rfl⟩) ?_
    refine .cons (fun ρ wz hρ hJ hb hd => by
      have d0 : ρ (.tmp 33) = (.agg #[.int .i64 (aft (a, b) n).1, .int .i64 (aft (a, b) n).2]) := hd 0 _ rfl rfl
      have d1 : ρ (.tmp 36) = (.agg #[.int .i64 (aft (a, b) n).1, .int .i64 (aft (a, b) n).2]) := hd 1 _ rfl rfl
      exact step_val (v := (.bool true)) (w' := wz) (by simp [go_sem, execOp, d0, d1, hρ.const]) ⟨Below.refl _ _, rfl⟩) ?_
    refine .cons (fun ρ wz hρ hJ hb hd => by
      have d0 : ρ (.tmp 30) = (.bool true) := hd 0 _ rfl rfl
      have d1 : ρ (.tmp 37) = (.bool true) := hd 1 _ rfl rfl
      exact step_val (v := (.bool true)) (w' := wz) (by simp [go_sem, execOp, d0, d1, hρ.const]) ⟨Below.refl _ _, rfl⟩) ?_
    refine .cons (fun ρ wz hρ hJ hb hd => by
      have d0 : ρ (.tmp 38) = (.bool true) := hd 0 _ rfl rfl
      exact step_move (.tmp 38) rfl ⟨Below.refl _ _, d0⟩) ?_
    refine .cons (fun ρ wz hρ hJ hb hd => by
      have d0 : ρ (.tmp 4) = (.pointer (some ⟨w.heap.size + 1, 0, none⟩)) := hb (4, _) (List.mem_of_getElem? (i := 2) rfl)
      obtain ⟨x0, x1⟩ := hB wz hJ
      exact step_val (v := (.agg #[.int .i64 c, .int .i64 d])) (w' := wz) (by simp [go_sem, execOp, d0, x0, x1]) ⟨Below.refl _ _, rfl⟩) ?_
    refine .cons (fun ρ wz hρ hJ hb hd => by
      have d0 : ρ (.tmp 2) = (.int .i64 n) := hb (2, _) (List.mem_of_getElem? (i := 0) rfl)
      exact step_move (.tmp 2) rfl ⟨Below.refl _ _, d0⟩) ?_
    refine .cons (fun ρ wz hρ hJ hb hd => by
      have d0 : ρ (.tmp 40) = (.agg #[.int .i64 c, .int .i64 d]) := hd 0 _ rfl rfl
      have d1 : ρ (.tmp 41) = (.int .i64 n) := hd 1 _ rfl rfl
      refine step_func 11 _ _ #[(.agg #[.int .i64 c, .int .i64 d]), (.int .i64 n)] hρ rfl (enters_of Try.func11 (by kernel_rfl) rfl) (by simp [d0, d1]) ?_
      refine (After_in c d n wz).mono ?_
      rintro e W' ⟨rfl, hg⟩
      exact ⟨_, rfl, hg, rfl⟩) ?_
    refine .cons (fun ρ wz hρ hJ hb hd => by
      have d0 : ρ (.tmp 4) = (.pointer (some ⟨w.heap.size + 1, 0, none⟩)) := hb (4, _) (List.mem_of_getElem? (i := 2) rfl)
      obtain ⟨x0, x1⟩ := hB wz hJ
      exact step_val (v := (.agg #[.int .i64 c, .int .i64 d])) (w' := wz) (by simp [go_sem, execOp, d0, x0, x1]) ⟨Below.refl _ _, rfl⟩) ?_
    refine .cons (fun ρ wz hρ hJ hb hd => by
      have d0 : ρ (.tmp 2) = (.int .i64 n) := hb (2, _) (List.mem_of_getElem? (i := 0) rfl)
      exact step_move (.tmp 2) rfl ⟨Below.refl _ _, d0⟩) ?_
    refine .cons (fun ρ wz hρ hJ hb hd => by
      have d0 : ρ (.tmp 43) = (.agg #[.int .i64 c, .int .i64 d]) := hd 0 _ rfl rfl
      have d1 : ρ (.tmp 44) = (.int .i64 n) := hd 1 _ rfl rfl
      refine step_func 12 _ _ #[(.agg #[.int .i64 c, .int .i64 d]), (.int .i64 n)] hρ rfl (enters_of Try.func12 (by kernel_rfl) rfl) (by simp [d0, d1]) ?_
      refine (refAfter_in c d n wz).mono ?_
      rintro e W' ⟨rfl, hg⟩
      exact ⟨_, rfl, hg, rfl⟩) ?_
    refine .cons (fun ρ wz hρ hJ hb hd => by
      have d0 : ρ (.tmp 42) = (.agg #[.int .i64 (aft (c, d) n).1, .int .i64 (aft (c, d) n).2]) := hd 0 _ rfl rfl
      have d1 : ρ (.tmp 45) = (.agg #[.int .i64 (aft (c, d) n).1, .int .i64 (aft (c, d) n).2]) := hd 1 _ rfl rfl
      exact step_val (v := (.bool true)) (w' := wz) (by simp [go_sem, execOp, d0, d1, hρ.const]) ⟨Below.refl _ _, rfl⟩) ?_
    refine .cons (fun ρ wz hρ hJ hb hd => by
      have d0 : ρ (.tmp 39) = (.bool true) := hd 0 _ rfl rfl
      have d1 : ρ (.tmp 46) = (.bool true) := hd 1 _ rfl rfl
      exact step_val (v := (.bool true)) (w' := wz) (by simp [go_sem, execOp, d0, d1, hρ.const]) ⟨Below.refl _ _, rfl⟩) ?_
    refine .cons (fun ρ wz hρ hJ hb hd => by
      have d0 : ρ (.tmp 47) = (.bool true) := hd 0 _ rfl rfl
      exact step_move (.tmp 47) rfl ⟨Below.refl _ _, d0⟩) ?_
    refine .cons (fun ρ wz hρ hJ hb hd => by
      refine step_func 13 _ _ #[] hρ rfl (enters_of Try.func13 (by kernel_rfl) rfl) (by simp []) ?_
      refine (known_in wz).mono ?_
      rintro e W' ⟨rfl, hg⟩
      exact ⟨_, rfl, hg, rfl⟩) ?_
    refine .cons (fun ρ wz hρ hJ hb hd => by
      have d0 : ρ (.tmp 48) = (.bool true) := hd 0 _ rfl rfl
      have d1 : ρ (.tmp 49) = (.bool true) := hd 1 _ rfl rfl
      exact step_val (v := (.bool true)) (w' := wz) (by simp [go_sem, execOp, d0, d1, hρ.const]) ⟨Below.refl _ _, rfl⟩) ?_
    refine .cons (fun ρ wz hρ hJ hb hd => by
      have d0 : ρ (.tmp 50) = (.bool true) := hd 0 _ rfl rfl
      exact step_assign (.tmp 50) rfl ⟨Below.refl _ _, d0⟩) (.nil _)
  case fin =>
    intro a' W h1 h2 hJ hv
    have h10 : a'.eval (.tmp 6) = .bool true := hv 44 (by decide)
    clear hv
    go_wp2
    refine bodyPost_ret (v := .bool true) ?_ h2 ⟨rfl, bnext hw2 hJ⟩
    have h4s := eval_some (a := a') (t := 6) (by omega)
    rw [h10] at h4s
    simp [results, Try.f3, h4s]

theorem own : ownKnob Try.prog.godebug = none := by kernel_rfl
theorem laidOut2 : laidOutB Try.prog = true := by kernel_rfl

set_option maxRecDepth 100000 in
theorem lifted (os : Os) (started : os.Started) (H : Type) (enc : TypeId × Value → H) :
    ReturnsInHanded {} Try.checked os 3 .any (Rows.stampComparesSpec.pre6 enc Try.prog Try.f3 Rows.stampComparesRow.domain false) (Rows.stampComparesSpec.post enc Try.prog Try.f3 false true false false) := by
  refine returnsInHanded_of_change (C := Try.checked) own started (by kernel_rfl) Try.func3
    (ChangeSpec.witness6 (enc := enc) (C := Try.checked) false ⟨#[], #[.agg #[.int .i64 0, .int .i64 0], .agg #[.int .i64 0, .int .i64 0], .int .i64 0], []⟩ 8 (by kernel_rfl) (by kernel_rfl) (by kernel_rfl) (by kernel_rfl)) ?_
  intro W base args ds gs before hval0 hW hcnd _
  have hval : ∀ (j : Nat) t v, Try.f3.params[j]? = some t → args[j]? = some v → Value.okWide Try.prog W .any base t v := hval0
  have hW' := hW
  obtain ⟨p, q, hA0, hV, rfl, hfz, hnd⟩ := hW
  have hA : DataW.TrodAll enc Try.prog W 0 (fun _ => true) true Try.f3.params.toList args.toList ds p := hA0
  rw [Try.params3] at hA hval
  obtain ⟨v0, vs0, d0, ds0, p0, q0, hargs, rfl, rfl, h0, r0⟩ := trodAll_cons hA
  obtain ⟨v1, vs1, d1, ds1, p1, q1, rfl, rfl, rfl, h1, r1⟩ := trodAll_cons r0
  obtain ⟨v2, vs2, d2, ds2, p2, q2, rfl, rfl, rfl, h2, r2⟩ := trodAll_cons r1
  obtain ⟨rfl, rfl, rfl⟩ := trodAll_nil r2
  obtain rfl : args = #[v0, v1, v2] := by cases args; simp_all
  obtain ⟨rfl, rfl⟩ := trodVars_none hV
  have k0 := h0
  have lt0 : ∀ x ∈ p0, x.block < W.heap.size := by obtain ⟨m, hm⟩ := k0; exact DataW.trod_lt m _ _ _ hm
  obtain ⟨a0, b0, rfl, w0⟩ := open_id (hval 0 23 v0 rfl rfl) h0
  have k1 := h1
  have lt1 : ∀ x ∈ p1, x.block < W.heap.size := by obtain ⟨m, hm⟩ := k1; exact DataW.trod_lt m _ _ _ hm
  obtain ⟨a1, b1, rfl, w1⟩ := open_id (hval 1 23 v1 rfl rfl) h1
  obtain ⟨a2, rfl, rfl, rfl, w2⟩ := open_int Try.underlying3 (hval 2 3 v2 rfl rfl) h2
  clear hA0 hval0
  refine (walk a0 b0 a1 b1 a2 W w0 w1 w2).mono fun e W' ⟨he, bel⟩ => ?_
  subst he
  exact ⟨_, rfl, _, _, _, [], _, [], hW', trodAll_mk1 (shut_bool Try.underlying4 _), (trodAll_cons_mk (Below.trod laidOut2 (by kernel_rfl) (of_decide_eq_true (by kernel_rfl)) k0 bel lt0) (trodAll_cons_mk (Below.trod laidOut2 (by kernel_rfl) (of_decide_eq_true (by kernel_rfl)) k1 bel lt1) (trodAll_cons_mk (shut_int Try.underlying3 w2) trodAll_mk0))), rfl, bel.frame _, fun h => by cases h⟩

theorem over : Rows.stampComparesRow.holds Try.pinned (OpenSpec.ofChange Rows.stampComparesSpec) :=
  OpenClaim.holds_of_wide 3 Try.f3 rfl rfl rfl rfl rfl rfl rfl ⟨rfl, rfl, rfl, rfl, rfl⟩ rfl rfl rfl rfl rfl (by kernel_rfl) Try.func3 (by kernel_rfl)
    (of_decide_eq_true (by kernel_rfl)) (by unfold Func.isWrapper; first | (rw [if_pos (by decide +kernel)]; kernel_rfl) | (rw [if_neg (by decide +kernel)]; exact ⟨rfl, rfl⟩))
    (fun os started H enc _ => lifted os started H enc)

end LStampCompares

theorem stampCompares_holds : Rows.StampComparesSaid := LStampCompares.over

end Go.Proofs.Ytnellneckbilaaa
