/-
  A copy told.
-/
import Derived.Test.YteomalmflebkhaaZNG
import Derived.Test.YteomalmflebkhaaZRegU
import Derived.Test.YteomalmflebkhaaZRegI
import Derived.Shelf.Abstract
set_option linter.unusedSimpArgs false
set_option linter.unusedVariables false
namespace Go.Proofs.Yteomalmflebkhaa
open Go.RowKit Go.Lib

theorem frame_fn {a : Act} (N : Nat) (hs : a.tmps.size = N) (hd : a.defers = []) : a = { tmps := ((List.range N).map fun k => a.eval (.tmp k)).toArray, defers := [] } := by
  obtain ⟨t, d⟩ := a
  simp only at hs hd
  subst hd
  congr 1
  apply Array.ext
  · simp [hs]
  · intro i h1 h2
    simp [Act.eval, h1]
variable {P N : Nat → Prop} {w W W' : World} {b p f : Nat} {c : Cp} {s : Stn} {vc vs : Value} {frm to sent : Int} {cl : List Int}
theorem sizeC : (Try.prog.info? 44).map (·.size) = some 6 := by kernel_rfl
/-- a Copy is stored -/
theorem set6 {v0 v1 v2 v3 v4 v5 : Value} (h : Bx W b 44 #[v0, v1, v2, v3, v4, v5]) (u0 u1 u2 u3 u4 u5 : Value) {Y : World} (hY : (((((W.setCell ⟨b, 0, none⟩ u0).setCell ⟨b, 1, none⟩ u1).setCell ⟨b, 2, none⟩ u2).setCell ⟨b, 3, none⟩ u3).setCell ⟨b, 4, none⟩ u4).setCell ⟨b, 5, none⟩ u5 = Y) : Bx Y b 44 #[u0, u1, u2, u3, u4, u5] ∧ Kp (fun i => i = b) W Y := by
  subst hY
  refine ⟨by simpa using (((((h.set 0 u0).set 1 u1).set 2 u2).set 3 u3).set 4 u4).set 5 u5, ?_⟩
  have k := fun (X : World) (j : Nat) (u : Value) => Kp.set (N := fun i => i = b) X ⟨b, j, none⟩ u rfl
  have t := fun {X Y Z : World} (h1 : Kp (fun i => i = b) X Y) (h2 : Kp (fun i => i = b) Y Z) => h1.trans h2 (fun i hi => .inl hi)
  exact t (t (t (t (t (k _ 0 u0) (k _ 1 u1)) (k _ 2 u2)) (k _ 3 u3)) (k _ 4 u4)) (k _ 5 u5)
def zC : Array Value := #[.int .i64 0, .int .i64 0, .int .i64 0, .slice none 0 0, .int .i64 0, .bool false]
/-- what is told of a copy -/
def TelA (w : World) (c : Cp) (e : Ending) (W : World) : Prop := ∃ a k, e = .returned (cpV c (.slice a c.dat.length k)) ∧ OwB W w.heap.size 5 (.slice a c.dat.length k) c.dat ∧ Below w.heap.size w W
def rowV (w : World) (c : Cp) : World → Value → Prop := fun X v => ∃ a k, v = .slice a c.dat.length k ∧ OwB X (w.heap.size + 1) 5 v c.dat
def aggV (w : World) (c : Cp) : World → Value → Prop := fun X v => ∃ a k, v = cpV c (.slice a c.dat.length k) ∧ OwB X (w.heap.size + 1) 5 (.slice a c.dat.length k) c.dat
structure JT (w : World) (X : World) : Prop where
  bel : Below w.heap.size w X
  bx : Bx X w.heap.size 44 zC
theorem JT.next {X X' : World} (h : JT w X) (hb : Below X.heap.size X X') : JT w X' := ⟨bnext h.bel hb, h.bx.below hb⟩
set_option maxRecDepth 100000 in
set_option maxHeartbeats 4000000 in
theorem tell_in (h : PR P w c p f vc vs) (h1 : c.cl.length ≤ 1000000) (h2 : c.sp.length ≤ 1000000) : Calls Try.prog 35 #[.pointer (some ⟨p, 0, none⟩), .int .i64 c.num] w (TelA w c) := by
  have P0 := hide (fun X (hX : Below w.heap.size w X) => cell_below (h.bp.cell 0 (.pointer (some ⟨f, 0, none⟩)) rfl) hX)
  have P1 := hide (fun X (hX : Below w.heap.size w X) => cell_below (h.bp.cell 1 (.bool c.bad) rfl) hX)
  have F0 := hide (fun X (hX : Below w.heap.size w X) => cell_below (h.fb.bf.cell 0 (.int .i64 c.frm) rfl) hX)
  have F1 := hide (fun X (hX : Below w.heap.size w X) => cell_below (h.fb.bf.cell 1 (.int .i64 c.to) rfl) hX)
  have F2 := hide (fun X (hX : Below w.heap.size w X) => cell_below (h.fb.bf.cell 2 (.int .i64 c.sent) rfl) hX)
  have HB := hide (fun X (hX : Below w.heap.size w X) => bytes_in (h.kp (N := fun _ => False) (Kp.of_below hX) (fun _ e => e.elim)) h1 h2)
  obtain ⟨X0, hX0⟩ : ∃ X0, w.alloc (.cells zC 44) = X0 := ⟨_, rfl⟩
  have J0 : Hid (JT w X0.drew) := by rw [← hX0]; exact ⟨(ballc (Below.refl _ _) _).drew, Bx.new _ _ _⟩
  unfold zC at hX0
  clear h h1 h2
  go_enter Try.func35, Try.ntmps35
  go_wp2_with fail
  refine wp_region_any (by kernel_rfl) ?_
  change wpAny _ _ _ _ _ _ _ (World.drew _)
  refine region_sp 34 (fun j => 5 + j) ((0, (Value.pointer (some { block := p, off := 0 }))) :: (1, (Value.int .i64 c.num)) :: (4, (Value.pointer (some { block := w.heap.size, off := 0 }))) :: []) (fun _ X => JT w X) (valsOf [isV (Value.int .i64 c.num), isV (Value.pointer (some { block := p, off := 0 })), isV (Value.pointer (some { block := p, off := 0 })), isV (Value.pointer (some { block := p, off := 0 })), isV (Value.pointer (some { block := f, off := 0 })), isV (Value.pointer (some { block := f, off := 0 })), isV (Value.pointer (some { block := f, off := 0 })), isV (Value.int .i64 c.frm), isV (Value.pointer (some { block := p, off := 0 })), isV (Value.pointer (some { block := p, off := 0 })), isV (Value.pointer (some { block := p, off := 0 })), isV (Value.pointer (some { block := f, off := 0 })), isV (Value.pointer (some { block := f, off := 0 })), isV (Value.pointer (some { block := f, off := 1 })), isV (Value.int .i64 c.to), isV (Value.pointer (some { block := p, off := 0 })), rowV w c, isV (Value.pointer (some { block := p, off := 0 })), isV (Value.pointer (some { block := p, off := 0 })), isV (Value.pointer (some { block := p, off := 0 })), isV (Value.pointer (some { block := f, off := 0 })), isV (Value.pointer (some { block := f, off := 0 })), isV (Value.pointer (some { block := f, off := 2 })), isV (Value.int .i64 c.sent), isV (Value.pointer (some { block := p, off := 0 })), isV (Value.pointer (some { block := p, off := 0 })), isV (Value.pointer (some { block := p, off := 1 })), isV (Value.bool c.bad), aggV w c]) (fun X X' => Below X.heap.size X X') [] (by decide) ?fit ?last ?stable ?steps 44 (.tmp 4) (.tmp 33) ?st ?fin _ _ ?sz rfl ?base (unhide J0)
  case fit => kernel_rfl
  case last => kernel_rfl
  case st => rfl
  case sz => rfl
  case base => intro q hq; repeat (first | (rcases List.mem_cons.1 hq with rfl | hq; · rfl) | cases hq)
  case stable =>
    intro j g w1 w2 v hJ hv hG
    refine valsOf_stable (J := fun X => JT w X) (G := fun X X' => Below X.heap.size X X') (Stables.all ?_) j w1 w2 v hJ hv hG
    repeat (first | refine Stables.same ?_ | refine Stables.other (fun X X' v hJ hv hG => by obtain ⟨a, k, e, ho⟩ := hv; exact ⟨a, k, e, ho.below hG⟩) ?_)
    exact Stables.nil
  case steps =>
    refine .cons (fun _ g ρ wz hf hfe hρ hJ hb hd => by
      have d0 : ρ (.tmp 1) = (Value.int .i64 c.num) := hb (1, _) (List.mem_of_getElem? (i := 1) rfl)
      exact step_move (.tmp 1) rfl ⟨Below.refl _ _, hJ, d0⟩) ?_
    refine .cons (fun _ g ρ wz hf hfe hρ hJ hb hd => by
      have d0 : ρ (.tmp 0) = (Value.pointer (some { block := p, off := 0 })) := hb (0, _) (List.mem_of_getElem? (i := 0) rfl)
      exact step_move (.tmp 0) rfl ⟨Below.refl _ _, hJ, d0⟩) ?_
    refine .cons (fun _ g ρ wz hf hfe hρ hJ hb hd => by
      have d0 : ρ (.tmp 6) = (Value.pointer (some { block := p, off := 0 })) := hd 0 _ rfl rfl
      exact step_val (v := (Value.pointer (some { block := p, off := 0 }))) (w' := wz) (by simp [go_sem, execOp, d0]) ⟨Below.refl _ _, hJ, rfl⟩) ?_
    refine .cons (fun _ g ρ wz hf hfe hρ hJ hb hd => by
      have d0 : ρ (.tmp 7) = (Value.pointer (some { block := p, off := 0 })) := hd 0 _ rfl rfl
      exact step_val (v := (Value.pointer (some { block := p, off := 0 }))) (w' := wz) (by simp [go_sem, execOp, d0]) ⟨Below.refl _ _, hJ, rfl⟩) ?_
    refine .cons (fun _ g ρ wz hf hfe hρ hJ hb hd => by
      have d0 : ρ (.tmp 8) = (Value.pointer (some { block := p, off := 0 })) := hd 0 _ rfl rfl
      have x0 := unhide P0 _ hJ.bel
      exact step_val (v := (Value.pointer (some { block := f, off := 0 }))) (w' := wz) (by simp [go_sem, execOp, d0, x0]) ⟨Below.refl _ _, hJ, rfl⟩) ?_
    refine .cons (fun _ g ρ wz hf hfe hρ hJ hb hd => by
      have d0 : ρ (.tmp 9) = (Value.pointer (some { block := f, off := 0 })) := hd 0 _ rfl rfl
      exact step_val (v := (Value.pointer (some { block := f, off := 0 }))) (w' := wz) (by simp [go_sem, execOp, d0]) ⟨Below.refl _ _, hJ, rfl⟩) ?_
    refine .cons (fun _ g ρ wz hf hfe hρ hJ hb hd => by
      have d0 : ρ (.tmp 10) = (Value.pointer (some { block := f, off := 0 })) := hd 0 _ rfl rfl
      exact step_val (v := (Value.pointer (some { block := f, off := 0 }))) (w' := wz) (by simp [go_sem, execOp, d0]) ⟨Below.refl _ _, hJ, rfl⟩) ?_
    refine .cons (fun _ g ρ wz hf hfe hρ hJ hb hd => by
      have d0 : ρ (.tmp 11) = (Value.pointer (some { block := f, off := 0 })) := hd 0 _ rfl rfl
      have x0 := unhide F0 _ hJ.bel
      exact step_val (v := (Value.int .i64 c.frm)) (w' := wz) (by simp [go_sem, execOp, d0, x0]) ⟨Below.refl _ _, hJ, rfl⟩) ?_
    refine .cons (fun _ g ρ wz hf hfe hρ hJ hb hd => by
      have d0 : ρ (.tmp 0) = (Value.pointer (some { block := p, off := 0 })) := hb (0, _) (List.mem_of_getElem? (i := 0) rfl)
      exact step_move (.tmp 0) rfl ⟨Below.refl _ _, hJ, d0⟩) ?_
    refine .cons (fun _ g ρ wz hf hfe hρ hJ hb hd => by
      have d0 : ρ (.tmp 13) = (Value.pointer (some { block := p, off := 0 })) := hd 0 _ rfl rfl
      exact step_val (v := (Value.pointer (some { block := p, off := 0 }))) (w' := wz) (by simp [go_sem, execOp, d0]) ⟨Below.refl _ _, hJ, rfl⟩) ?_
    refine .cons (fun _ g ρ wz hf hfe hρ hJ hb hd => by
      have d0 : ρ (.tmp 14) = (Value.pointer (some { block := p, off := 0 })) := hd 0 _ rfl rfl
      exact step_val (v := (Value.pointer (some { block := p, off := 0 }))) (w' := wz) (by simp [go_sem, execOp, d0]) ⟨Below.refl _ _, hJ, rfl⟩) ?_
    refine .cons (fun _ g ρ wz hf hfe hρ hJ hb hd => by
      have d0 : ρ (.tmp 15) = (Value.pointer (some { block := p, off := 0 })) := hd 0 _ rfl rfl
      have x0 := unhide P0 _ hJ.bel
      exact step_val (v := (Value.pointer (some { block := f, off := 0 }))) (w' := wz) (by simp [go_sem, execOp, d0, x0]) ⟨Below.refl _ _, hJ, rfl⟩) ?_
    refine .cons (fun _ g ρ wz hf hfe hρ hJ hb hd => by
      have d0 : ρ (.tmp 16) = (Value.pointer (some { block := f, off := 0 })) := hd 0 _ rfl rfl
      exact step_val (v := (Value.pointer (some { block := f, off := 0 }))) (w' := wz) (by simp [go_sem, execOp, d0]) ⟨Below.refl _ _, hJ, rfl⟩) ?_
    refine .cons (fun _ g ρ wz hf hfe hρ hJ hb hd => by
      have d0 : ρ (.tmp 17) = (Value.pointer (some { block := f, off := 0 })) := hd 0 _ rfl rfl
      exact step_val (v := (Value.pointer (some { block := f, off := 1 }))) (w' := wz) (by simp [go_sem, execOp, d0]) ⟨Below.refl _ _, hJ, rfl⟩) ?_
    refine .cons (fun _ g ρ wz hf hfe hρ hJ hb hd => by
      have d0 : ρ (.tmp 18) = (Value.pointer (some { block := f, off := 1 })) := hd 0 _ rfl rfl
      have x0 := unhide F1 _ hJ.bel
      exact step_val (v := (Value.int .i64 c.to)) (w' := wz) (by simp [go_sem, execOp, d0, x0]) ⟨Below.refl _ _, hJ, rfl⟩) ?_
    refine .cons (fun _ g ρ wz hf hfe hρ hJ hb hd => by
      have d0 : ρ (.tmp 0) = (Value.pointer (some { block := p, off := 0 })) := hb (0, _) (List.mem_of_getElem? (i := 0) rfl)
      exact step_move (.tmp 0) rfl ⟨Below.refl _ _, hJ, d0⟩) ?_
    refine .cons (fun _ g ρ wz hf hfe hρ hJ hb hd => by
      have d0 : ρ (.tmp 20) = (Value.pointer (some { block := p, off := 0 })) := hd 0 _ rfl rfl
      refine step_func 54 _ _ #[(Value.pointer (some { block := p, off := 0 }))] hρ rfl (enters_of Try.func54 (by kernel_rfl) rfl) (by simp [d0]) ?_
      refine (unhide HB _ hJ.bel).mono ?_
      rintro e W' ⟨a, k, rfl, ho, hbw⟩
      exact ⟨_, rfl, hbw, hJ.next hbw, a, k, rfl, ho.wk (by have := hJ.bx.lt; omega)⟩) ?_
    refine .cons (fun _ g ρ wz hf hfe hρ hJ hb hd => by
      have d0 : ρ (.tmp 0) = (Value.pointer (some { block := p, off := 0 })) := hb (0, _) (List.mem_of_getElem? (i := 0) rfl)
      exact step_move (.tmp 0) rfl ⟨Below.refl _ _, hJ, d0⟩) ?_
    refine .cons (fun _ g ρ wz hf hfe hρ hJ hb hd => by
      have d0 : ρ (.tmp 22) = (Value.pointer (some { block := p, off := 0 })) := hd 0 _ rfl rfl
      exact step_val (v := (Value.pointer (some { block := p, off := 0 }))) (w' := wz) (by simp [go_sem, execOp, d0]) ⟨Below.refl _ _, hJ, rfl⟩) ?_
    refine .cons (fun _ g ρ wz hf hfe hρ hJ hb hd => by
      have d0 : ρ (.tmp 23) = (Value.pointer (some { block := p, off := 0 })) := hd 0 _ rfl rfl
      exact step_val (v := (Value.pointer (some { block := p, off := 0 }))) (w' := wz) (by simp [go_sem, execOp, d0]) ⟨Below.refl _ _, hJ, rfl⟩) ?_
    refine .cons (fun _ g ρ wz hf hfe hρ hJ hb hd => by
      have d0 : ρ (.tmp 24) = (Value.pointer (some { block := p, off := 0 })) := hd 0 _ rfl rfl
      have x0 := unhide P0 _ hJ.bel
      exact step_val (v := (Value.pointer (some { block := f, off := 0 }))) (w' := wz) (by simp [go_sem, execOp, d0, x0]) ⟨Below.refl _ _, hJ, rfl⟩) ?_
    refine .cons (fun _ g ρ wz hf hfe hρ hJ hb hd => by
      have d0 : ρ (.tmp 25) = (Value.pointer (some { block := f, off := 0 })) := hd 0 _ rfl rfl
      exact step_val (v := (Value.pointer (some { block := f, off := 0 }))) (w' := wz) (by simp [go_sem, execOp, d0]) ⟨Below.refl _ _, hJ, rfl⟩) ?_
    refine .cons (fun _ g ρ wz hf hfe hρ hJ hb hd => by
      have d0 : ρ (.tmp 26) = (Value.pointer (some { block := f, off := 0 })) := hd 0 _ rfl rfl
      exact step_val (v := (Value.pointer (some { block := f, off := 2 }))) (w' := wz) (by simp [go_sem, execOp, d0]) ⟨Below.refl _ _, hJ, rfl⟩) ?_
    refine .cons (fun _ g ρ wz hf hfe hρ hJ hb hd => by
      have d0 : ρ (.tmp 27) = (Value.pointer (some { block := f, off := 2 })) := hd 0 _ rfl rfl
      have x0 := unhide F2 _ hJ.bel
      exact step_val (v := (Value.int .i64 c.sent)) (w' := wz) (by simp [go_sem, execOp, d0, x0]) ⟨Below.refl _ _, hJ, rfl⟩) ?_
    refine .cons (fun _ g ρ wz hf hfe hρ hJ hb hd => by
      have d0 : ρ (.tmp 0) = (Value.pointer (some { block := p, off := 0 })) := hb (0, _) (List.mem_of_getElem? (i := 0) rfl)
      exact step_move (.tmp 0) rfl ⟨Below.refl _ _, hJ, d0⟩) ?_
    refine .cons (fun _ g ρ wz hf hfe hρ hJ hb hd => by
      have d0 : ρ (.tmp 29) = (Value.pointer (some { block := p, off := 0 })) := hd 0 _ rfl rfl
      exact step_val (v := (Value.pointer (some { block := p, off := 0 }))) (w' := wz) (by simp [go_sem, execOp, d0]) ⟨Below.refl _ _, hJ, rfl⟩) ?_
    refine .cons (fun _ g ρ wz hf hfe hρ hJ hb hd => by
      have d0 : ρ (.tmp 30) = (Value.pointer (some { block := p, off := 0 })) := hd 0 _ rfl rfl
      exact step_val (v := (Value.pointer (some { block := p, off := 1 }))) (w' := wz) (by simp [go_sem, execOp, d0]) ⟨Below.refl _ _, hJ, rfl⟩) ?_
    refine .cons (fun _ g ρ wz hf hfe hρ hJ hb hd => by
      have d0 : ρ (.tmp 31) = (Value.pointer (some { block := p, off := 1 })) := hd 0 _ rfl rfl
      have x0 := unhide P1 _ hJ.bel
      exact step_val (v := (Value.bool c.bad)) (w' := wz) (by simp [go_sem, execOp, d0, x0]) ⟨Below.refl _ _, hJ, rfl⟩) ?_
    refine .cons (fun _ g ρ wz hf hfe hρ hJ hb hd => by
      have d0 : ρ (.tmp 5) = (Value.int .i64 c.num) := hd 0 _ rfl rfl
      have d1 : ρ (.tmp 12) = (Value.int .i64 c.frm) := hd 1 _ rfl rfl
      have d2 : ρ (.tmp 19) = (Value.int .i64 c.to) := hd 2 _ rfl rfl
      obtain ⟨a, k, d3, ho⟩ : rowV w c wz (ρ (.tmp 21)) := hd 3 _ rfl rfl
      have d4 : ρ (.tmp 28) = (Value.int .i64 c.sent) := hd 4 _ rfl rfl
      have d5 : ρ (.tmp 32) = (Value.bool c.bad) := hd 5 _ rfl rfl
      rw [d3] at ho
      exact step_val (v := cpV c (.slice a c.dat.length k)) (w' := wz) (by simp [go_sem, execOp, d0, d1, d2, d3, d4, d5, cpV]) ⟨Below.refl _ _, hJ, a, k, rfl, ho⟩) ?_
    refine .cons (fun hlt => absurd hlt (by decide)) ?_
    exact .nil _
  case fin =>
    intro a X1 hsz2 hds hb hJ hv
    obtain ⟨g, _, _, hJ⟩ := hJ
    have e4 : a.eval (.tmp 4) = (Value.pointer (some { block := w.heap.size, off := 0 })) := hb (4, _) (List.mem_of_getElem? (i := 2) rfl)
    obtain ⟨a3, k3, e33, ho⟩ : aggV w c X1 (a.eval (.tmp 33)) := hv 28 (by decide)
    clear hv hb J0 P0 P1 F0 F1 F2 HB
    obtain ⟨u, rfl⟩ : ∃ u : Nat → Value, a = ⟨#[u 0, u 1, u 2, u 3, u 4, u 5, u 6, u 7, u 8, u 9, u 10, u 11, u 12, u 13, u 14, u 15, u 16, u 17, u 18, u 19, u 20, u 21, u 22, u 23, u 24, u 25, u 26, u 27, u 28, u 29, u 30, u 31, u 32, u 33], []⟩ := ⟨fun k => a.eval (.tmp k), frame_fn 34 hsz2 hds⟩
    change u 4 = _ at e4
    change u 33 = _ at e33
    have hbx : Bx X1 w.heap.size 44 #[.int .i64 0, .int .i64 0, .int .i64 0, .slice none 0 0, .int .i64 0, .bool false] := hJ.bx
    obtain ⟨Y, hY⟩ : ∃ Y, (((((X1.setCell ⟨w.heap.size, 0, none⟩ (.int .i64 c.num)).setCell ⟨w.heap.size, 1, none⟩ (.int .i64 c.frm)).setCell ⟨w.heap.size, 2, none⟩ (.int .i64 c.to)).setCell ⟨w.heap.size, 3, none⟩ (.slice a3 c.dat.length k3)).setCell ⟨w.heap.size, 4, none⟩ (.int .i64 c.sent)).setCell ⟨w.heap.size, 5, none⟩ (.bool c.bad) = Y := ⟨_, rfl⟩
    obtain ⟨bY, kY⟩ := set6 hbx _ _ _ _ _ _ hY
    have HO := hide (ho.kp kY (fun i hi e => by have := ho.lt i hi; omega))
    have HB := hide (kY.below hJ.bel (fun i e => by omega))
    have z0 := hbx.cell 0 _ rfl
    have f0 := hbx.frozen 0
    have y0 := bY.cell 0 _ rfl
    have z1 := hbx.cell 1 _ rfl
    have f1 := hbx.frozen 1
    have y1 := bY.cell 1 _ rfl
    have z2 := hbx.cell 2 _ rfl
    have f2 := hbx.frozen 2
    have y2 := bY.cell 2 _ rfl
    have z3 := hbx.cell 3 _ rfl
    have f3 := hbx.frozen 3
    have y3 := bY.cell 3 _ rfl
    have z4 := hbx.cell 4 _ rfl
    have f4 := hbx.frozen 4
    have y4 := bY.cell 4 _ rfl
    have z5 := hbx.cell 5 _ rfl
    have f5 := hbx.frozen 5
    have y5 := bY.cell 5 _ rfl
    have HbY := hide bY
    clear hJ ho bY
    refine ⟨Y, ?_, ?_⟩
    · show (Instr.storeAt 44 (u 4) (u 33)).run Try.prog X1 = _
      rw [e4, e33]
      unfold cpV
      rw [← hY]
      simp [go_sem, z0, z1, z2, z3, z4, z5, f0, f1, f2, f3, f4, f5]
    · rw [e4, e33]
      unfold cpV
      clear e4 e33 hsz2 hds hY kY hbx z0 z1 z2 z3 z4 z5 f0 f1 f2 f3 f4 f5
      go_wp2
      refine bodyPost_ret (results_cell_row rfl _ _ w.heap.size _ _ _ _ rfl (unhide HbY) Try.underlying44 rfl sizeC) rfl ?_
      exact ⟨_, _, rfl, (unhide HO).wk (Nat.le_succ _), unhide HB⟩

end Go.Proofs.Yteomalmflebkhaa
