/-
  opened: the body of the document's example; of nothing.
-/
import Derived.Test.YtkffonoifbaifaaGreatZFI
import Derived.Test.YtkffonoifbaifaaGreatZFJ
import Derived.Deep.CutRange
import Derived.Test.YtkffonoifbaifaaGreatZXReg
set_option linter.unusedSimpArgs false
set_option linter.unusedVariables false
namespace Go.Proofs.YtkffonoifbaifaaGreat
open Go.RowKit Go.Lib

theorem sl_upto (w : World) (a : Option Addr) (n c k : Nat) (hk : k ≤ n) (hn : n ≤ c) :
    (Instr.sliceAt 22 (.slice a n c) none (some (.int .i64 (k : Nat))) none).run Tryz.prog w = .ok (.slice a k c) w := by
  obtain ⟨i0, hi, hz0, hz1, hz2⟩ := info_parts infoB
  have h1 : (k : Int) ≤ (c : Int) := by omega
  have h2 : k ≤ c := by omega
  have h3 : (0 : Int) ≤ (k : Int) := by omega
  cases a with
  | none => by_cases h0 : k = 0 <;> simp [Instr.sliceAt, Instr.slice, run_underlying Tryz.underlying22, sizeOf, typeInfo, hi, hz1, go_sem, h1, h2, h3, h0]
  | some ad => simp [Instr.sliceAt, Instr.slice, run_underlying Tryz.underlying22, sizeOf, typeInfo, hi, hz1, go_sem, h1, h2, h3]
theorem RB.upto {W : World} {a : Option Addr} {n c k : Nat} {l : List Nat} (h : RB W (.slice a n c) l) (hn : l.length = n) (hk : k ≤ n) (h0 : 0 < k) : RB W (.slice a k c) (l.take k) := by
  rcases h with ⟨e, _⟩ | ⟨b, off, cap, e, h1, h2, hc⟩
  · omega
  · simp at e
    obtain ⟨rfl, e1, rfl⟩ := e
    have e2 : (l.take k).length = k := by rw [List.length_take]; omega
    unfold RB
    rw [e2]
    refine .inr ⟨b, off, c, rfl, by omega, h2, fun j x hj => ?_⟩
    have hj2 : (bC l)[j]? = some x := by
      rw [← bC_take, List.getElem?_take] at hj
      split at hj
      · exact hj
      · cases hj
    exact hc j x hj2
theorem must0 (W : World) : Calls Tryz.prog 32 #[.int .i64 0] W fun r W' => r = .returned (.tuple #[]) ∧ Below W.heap.size W W' := (fMust_in 0 W).mono (by rintro r W' ⟨rfl, rfl⟩; exact ⟨rfl, Below.refl _ _⟩)
theorem unless0 (e : Int) (W : World) : Calls Tryz.prog 33 #[.bool true, .int .i64 e] W fun r W' => r = .returned (.int .i64 0) ∧ Below W.heap.size W W' := (unless_in true e W).mono (by rintro r W' ⟨rfl, rfl⟩; exact ⟨rfl, Below.refl _ _⟩)
theorem all_len : all17.length = 19 := rfl
theorem w_head : uI (wOf (all17.take 4) 4) = 11 := by kernel_rfl
theorem w_tail : uI (wOf (all17.drop 15) 4) = uI (crc (all17.take 15)) := by kernel_rfl
theorem all_body : (all17.drop 4).take 11 = body17 := by kernel_rfl
theorem frame_fnF {a : Act} (N : Nat) (hs : a.tmps.size = N) (hd : a.defers = []) : a = { tmps := ((List.range N).map fun k => a.eval (.tmp k)).toArray, defers := [] } := by
  obtain ⟨t, d⟩ := a
  simp only at hs hd
  subst hd
  congr 1
  apply Array.ext
  · simp [hs]
  · intro i h1 h2
    simp [Act.eval, h1]
set_option maxRecDepth 100000 in
set_option maxHeartbeats 8000000 in
theorem opened_ex {w : World} {a : Option Addr} {c : Nat} (h : RB w (.slice a 19 c) all17) : Calls Tryz.prog 18 #[.slice a 19 c] w fun r W => ∃ a' c', r = .returned (.slice a' 11 c') ∧ RB W (.slice a' 11 c') body17 ∧ Below w.heap.size w W := by
  have hc : 19 ≤ c := by
    rcases h with ⟨e, _⟩ | ⟨b, off, cap, e, h1, _, _⟩
    · rw [all_len] at e; cases e
    · simp at e; rw [all_len] at h1; omega
  have r1 : RB w (.slice a 4 c) (all17.take 4) := h.upto all_len (by omega) (by omega)
  have r2 : RB w (.slice a 15 c) (all17.take 15) := h.upto all_len (by omega) (by omega)
  have r3 := RC.drop (k := 15) h (by omega) (by rw [bC_len]; exact all_len)
  have r4 := RC.mid (k := 4) (m := 11) h (by omega) (by rw [bC_len]; exact all_len)
  rw [bC_drop] at r3
  rw [bC_drop, bC_take, all_body] at r4
  have r3' : RB w (.slice (if c = 15 then a else a.map (·.add 15)) 4 (c - 15)) (all17.drop 15) := r3
  have r4' : RB w (.slice (if c = 4 then a else a.map (·.add 4)) 11 (c - 4)) body17 := r4
  have s1 : ∀ W, (Instr.sliceAt 22 (.slice a 19 c) (some (.int .i64 4)) (some (.int .i64 15)) none).run Tryz.prog W = .ok (.slice (if c = 4 then a else a.map (·.add 4)) 11 (c - 4)) W := fun W => sl_mid W a 19 c 4 11 (by omega) hc
  have s2 : ∀ W, (Instr.sliceAt 22 (.slice a 19 c) none (some (.int .i64 4)) none).run Tryz.prog W = .ok (.slice a 4 c) W := fun W => sl_upto W a 19 c 4 (by omega) hc
  have s3 : ∀ W, (Instr.sliceAt 22 (.slice a 19 c) (some (.int .i64 15)) none none).run Tryz.prog W = .ok (.slice (if c = 15 then a else a.map (·.add 15)) 4 (c - 15)) W := fun W => sl_from W a 19 c 15 (by omega) hc
  have s4 : ∀ W, (Instr.sliceAt 22 (.slice a 19 c) none (some (.int .i64 15)) none).run Tryz.prog W = .ok (.slice a 15 c) W := fun W => sl_upto W a 19 c 15 (by omega) hc
  clear r3 r4 h hc
  generalize (if c = 15 then a else a.map (·.add 15)) = a3 at *
  generalize (if c = 4 then a else a.map (·.add 4)) = a4 at *
  generalize c - 15 = c3 at *
  generalize c - 4 = c4 at *
  have e1 := w_head
  have H1 := hide (wordOf_in _ _ w r1 rfl)
  have R2 := hide r2
  have R3 := hide r3'
  have R4 := hide r4'
  have mixed : Tryz.prog.follows .mixedOrders = true := by kernel_rfl
  rw [e1] at H1
  clear r1 r2 r3' r4' e1
  go_enter Tryz.func18, Tryz.ntmps18
  go_wp2_with (first | (go_at_call 32; refine (fMust_in 0 _).mono ?_; rintro r W2 ⟨rfl, rfl⟩; rw [upF_ok]) | (go_at_call 33; refine (unless_in true _ _).mono ?_; rintro r W2 ⟨rfl, rfl⟩; rw [if_pos rfl]) | (go_at_call 34; refine (unhide H1).mono ?_; rintro r W1 ⟨rfl, hb1⟩; have HB1 := hide hb1; clear hb1))
  have HS := hide (fun W (h : Below W1.heap.size W1 W) => Sum_in _ _ W ((unhide R2).below (bnext (unhide HB1) h)) (show (all17.take 15).length ≤ 140737488355328 by decide))
  have HW := hide (fun W (h : Below W1.heap.size W1 W) => wordOf_in _ _ W ((unhide R3).below (bnext (unhide HB1) h)) rfl)
  rw [w_tail] at HW
  generalize uI (crc (all17.take 15)) = q at *
  go_upto_region 5 with fail
  refine wp_region_any (by kernel_rfl) ?_
  change wpAny _ _ _ _ _ _ _ (World.drew _)
  refine region_invB 37 (fun j => 25 + j) ((0, (.slice a 19 c)) :: (3, (.int .i64 15)) :: (4, .slice a4 11 c4) :: []) (fun W => Below W1.heap.size W1 W) (fun j W x => match j with | 0 => x = (.slice a 19 c) | 1 => x = (.int .i64 15) | 2 => x = (.slice a3 4 c3) | 3 => x = (.int .u32 q) | 4 => x = (.slice a 19 c) | 5 => x = (.int .i64 15) | 6 => x = (.slice a 15 c) | 7 => x = (.int .u32 q) | 8 => x = (.bool true) | 9 => x = (.int .i64 0) | 10 => x = (.tuple #[]) | _ => True) (fun W W' => Below W.heap.size W W') ?fit ?keep ?stable [] ?gs ?gv ?steps ?fin _ _ ?sz rfl ?base (Below.refl W1.heap.size W1).drew
  case fit => kernel_rfl
  case keep => intro w1 w2 h1 h2; exact bnext h1 h2
  case gs => kernel_rfl
  case gv => intro p hp; cases hp
  case sz => rfl
  case base => intro p hp; repeat (first | (rcases List.mem_cons.1 hp with rfl | hp; · rfl) | cases hp)
  case stable =>
    intro j w1 w2 v hJ hv hG
    match j with
    | 0 | 1 | 2 | 3 | 4 | 5 | 6 | 7 | 8 | 9 | 10 => exact hv
    | (q + 11) => trivial
  case steps =>
    refine .cons (fun ρ wz hρ hJ hb hd => by
      have d0 : ρ (.tmp 0) = (.slice a 19 c) := hb (0, _) (List.mem_of_getElem? (i := 0) rfl)
      exact step_val (v := (.slice a 19 c)) (w' := wz) (by simp [go_sem, execOp, d0]) ⟨Below.refl _ _, rfl⟩) ?_
    refine .cons (fun ρ wz hρ hJ hb hd => by
      have d0 : ρ (.tmp 3) = (.int .i64 15) := hb (3, _) (List.mem_of_getElem? (i := 1) rfl)
      exact step_val (v := (.int .i64 15)) (w' := wz) (by simp [go_sem, execOp, d0]) ⟨Below.refl _ _, rfl⟩) ?_
    refine .cons (fun ρ wz hρ hJ hb hd => by
      have d0 : ρ (.tmp 25) = (.slice a 19 c) := hd 0 _ rfl rfl
      have d1 : ρ (.tmp 26) = (.int .i64 15) := hd 1 _ rfl rfl
      exact step_val (v := (.slice a3 4 c3)) (w' := wz) (by simp [go_sem, execOp, d0, d1, s3]) ⟨Below.refl _ _, rfl⟩) ?_
    refine .cons (fun ρ wz hρ hJ hb hd => by
      have d0 : ρ (.tmp 27) = (.slice a3 4 c3) := hd 0 _ rfl rfl
      refine step_func 34 _ _ #[(.slice a3 4 c3)] hρ rfl (enters_of Tryz.func34 (by kernel_rfl) rfl) (by simp [d0]) ?_
      refine (unhide HW wz hJ).mono ?_
      rintro e W' ⟨rfl, hb2⟩
      exact ⟨_, rfl, hb2, rfl⟩) ?_
    refine .cons (fun ρ wz hρ hJ hb hd => by
      have d0 : ρ (.tmp 0) = (.slice a 19 c) := hb (0, _) (List.mem_of_getElem? (i := 0) rfl)
      exact step_val (v := (.slice a 19 c)) (w' := wz) (by simp [go_sem, execOp, d0]) ⟨Below.refl _ _, rfl⟩) ?_
    refine .cons (fun ρ wz hρ hJ hb hd => by
      have d0 : ρ (.tmp 3) = (.int .i64 15) := hb (3, _) (List.mem_of_getElem? (i := 1) rfl)
      exact step_val (v := (.int .i64 15)) (w' := wz) (by simp [go_sem, execOp, d0]) ⟨Below.refl _ _, rfl⟩) ?_
    refine .cons (fun ρ wz hρ hJ hb hd => by
      have d0 : ρ (.tmp 29) = (.slice a 19 c) := hd 0 _ rfl rfl
      have d1 : ρ (.tmp 30) = (.int .i64 15) := hd 1 _ rfl rfl
      exact step_val (v := (.slice a 15 c)) (w' := wz) (by simp [go_sem, execOp, d0, d1, s4]) ⟨Below.refl _ _, rfl⟩) ?_
    refine .cons (fun ρ wz hρ hJ hb hd => by
      have d0 : ρ (.tmp 31) = (.slice a 15 c) := hd 0 _ rfl rfl
      refine step_func 5 _ _ #[(.slice a 15 c)] hρ rfl (enters_of Tryz.func5 (by kernel_rfl) rfl) (by simp [d0]) ?_
      refine (unhide HS wz hJ).mono ?_
      rintro e W' ⟨rfl, hb2⟩
      exact ⟨_, rfl, hb2, rfl⟩) ?_
    refine .cons (fun ρ wz hρ hJ hb hd => by
      have d0 : ρ (.tmp 28) = (.int .u32 q) := hd 0 _ rfl rfl
      have d1 : ρ (.tmp 32) = (.int .u32 q) := hd 1 _ rfl rfl
      exact step_val (v := .bool true) (w' := wz) (by simp [go_sem, execOp, d0, d1]) ⟨Below.refl _ _, rfl⟩) ?_
    refine .cons (fun ρ wz hρ hJ hb hd => by
      have d0 : ρ (.tmp 33) = (.bool true) := hd 0 _ rfl rfl
      refine step_func 33 _ _ #[(.bool true), (.int .i64 8)] hρ rfl (enters_of Tryz.func33 (by kernel_rfl) rfl) (by simp [d0, hρ.const]) ?_
      refine (unless0 8 wz).mono ?_
      rintro e W' ⟨rfl, hb2⟩
      exact ⟨_, rfl, hb2, rfl⟩) ?_
    refine .cons (fun ρ wz hρ hJ hb hd => by
      have d0 : ρ (.tmp 34) = (.int .i64 0) := hd 0 _ rfl rfl
      refine step_func 32 _ _ #[(.int .i64 0)] hρ rfl (enters_of Tryz.func32 (by kernel_rfl) rfl) (by simp [d0]) ?_
      refine (must0 wz).mono ?_
      rintro e W' ⟨rfl, hb2⟩
      exact ⟨_, rfl, hb2, rfl⟩) ?_
    exact .nil _
  case fin =>
    intro aQ W2 hsz2 hds hb hJ hv
    have e4 : aQ.eval (.tmp 4) = .slice a4 11 c4 := hb (4, _) (List.mem_of_getElem? (i := 2) rfl)
    have BE := hide (bnext (unhide HB1) hJ)
    obtain ⟨f9, rfl⟩ : ∃ f9 : Nat → Value, aQ = ⟨#[f9 0, f9 1, f9 2, f9 3, f9 4, f9 5, f9 6, f9 7, f9 8, f9 9, f9 10, f9 11, f9 12, f9 13, f9 14, f9 15, f9 16, f9 17, f9 18, f9 19, f9 20, f9 21, f9 22, f9 23, f9 24, f9 25, f9 26, f9 27, f9 28, f9 29, f9 30, f9 31, f9 32, f9 33, f9 34, f9 35, f9 36], []⟩ := ⟨fun k => aQ.eval (.tmp k), frame_fnF 37 hsz2 hds⟩
    change f9 4 = _ at e4
    rw [e4]
    clear e4 hsz2 hds hb hv hJ HS HW
    go_wp2
    go_ret
    exact ⟨a4, c4, rfl, (unhide R4).below (unhide BE), unhide BE⟩
end Go.Proofs.YtkffonoifbaifaaGreat
