/-
  The law's bare: a step with what its kind has.
-/
import Derived.Test.YtkndjbmlkfpfoaaGreatDoorZKN5ToSB3

set_option linter.unusedSimpArgs false
set_option linter.unusedVariables false
namespace Go.Proofs.YtkndjbmlkfpfoaaGreatDoor
open Go.RowKit Go.Lib

def bareL (s : Sp) : Sp := if 1 ≤ s.kind ∧ s.kind ≤ 14 then bareS s else sp0 s.kind
theorem bareL_of {s : Sp} (h : isK s) : bareL s = bareS s := if_pos h
/-- what bare answers -/
def BrA (W0 W : World) (s : Sp) (e : Ending) (W' : World) : Prop := ∃ (a1 : Option Addr) (n1 c1 : Nat) (a2 : Option Addr) (n2 c2 : Nat), e = .returned (.agg (spC (bareL s) (.slice a1 n1 c1) (.slice a2 n2 c2))) ∧ RNm W0 (.slice a1 n1 c1) (bareL s).draws ∧ RBy W0 (.slice a2 n2 c2) (bareL s).data ∧ Below W.heap.size W W'

set_option maxRecDepth 100000 in
set_option maxHeartbeats 4000000 in
theorem bare1 {W0 W : World} (s : Sp) (a1 : Option Addr) (n1 c1 : Nat) (a2 : Option Addr) (n2 c2 : Nat) (hd : RNm W0 (.slice a1 n1 c1) s.draws) (hb : RBy W0 (.slice a2 n2 c2) s.data) (hk : s.kind = 1) :
    Calls Tryz.prog 21 #[.agg (spC s (.slice a1 n1 c1) (.slice a2 n2 c2))] W (BrA W0 W s) := by
  have hbl : bareL s = ⟨1, s.site, 0, 0, s.at_, 0, s.text, [], []⟩ := by
    obtain ⟨k, q1, q2, q3, q4, q5, q6, q7, q8⟩ := s
    simp only at hk
    subst hk
    rfl
  obtain ⟨X1, hX1⟩ : ∃ X, (W.alloc (.cells (spC s (.slice a1 n1 c1) (.slice a2 n2 c2)) 40)).alloc (.cells zSt 40) = X := ⟨_, rfl⟩
  have hb1 : Below W.heap.size W X1 := by rw [← hX1]; exact ballc (ballc (Below.refl _ _) _) _
  have hs1 : X1.heap.size = W.heap.size + 2 := by rw [← hX1]; simp
  have r0 : Bq X1 W.heap.size 40 (spC s (.slice a1 n1 c1) (.slice a2 n2 c2)) := by rw [← hX1]; exact (Bq.new W _ _).keep (ballc (Below.refl _ _) _) (Bq.new W _ _).lt
  have r1 : Bq X1 (W.heap.size + 1) 40 zSt := by
    have h := Bq.new (W.alloc (.cells (spC s (.slice a1 n1 c1) (.slice a2 n2 c2)) 40)) 40 zSt
    rw [World.size_alloc] at h
    rw [← hX1]
    exact h
  obtain ⟨X, hX⟩ : ∃ X, X1.alloc (.cells (spC (sp0 1) (.slice none 0 0) (.slice none 0 0)) 40) = X := ⟨_, rfl⟩
  have hbX0 : Below X1.heap.size X1 X := by rw [← hX]; exact ballc (Below.refl _ _) _
  have hbX : Below W.heap.size W X := bnext hb1 hbX0
  have q0 : Bq X W.heap.size 40 (spC s (.slice a1 n1 c1) (.slice a2 n2 c2)) := r0.keep hbX0 r0.lt
  have q1 : Bq X (W.heap.size + 1) 40 zSt := r1.keep hbX0 r1.lt
  have q2 : Bq X X1.heap.size 40 (spC (sp0 1) (.slice none 0 0) (.slice none 0 0)) := by rw [← hX]; exact Bq.new _ _ _
  have k00 := r0.cell 0 (.int .i64 s.kind) rfl
  rw [hk] at k00
  unfold spC sp0 at hX
  unfold spC zSt at hX1
  rw [hk] at hX1
  unfold spC
  rw [hk]
  have k0 := q0.cell 0 (.int .i64 s.kind) rfl
  rw [hk] at k0
  have s1 := q0.cell 1 (.int .i64 s.site) rfl
  have s4 := q0.cell 4 (.int .i64 s.at_) rfl
  have s6 := q0.cell 6 (.string s.text) rfl
  have kk0 : Kp (fun i => i = X1.heap.size) X X := Kp.refl _ _
  have o0 := q2.cell 1 (.int .i64 0) rfl
  have f0 := q2.frozen 1
  have l0 := q2.lt
  obtain ⟨Y1, hY1⟩ : ∃ Y, X.setCell ⟨X1.heap.size, 1, none⟩ (.int .i64 s.site) = Y := ⟨_, rfl⟩
  have p0 := q2.sets 1 (.int .i64 s.site)
  rw [hY1] at p0
  have kk1 := kk0.trans (Kp.set (N := fun i => i = X1.heap.size) X ⟨X1.heap.size, 1, none⟩ (.int .i64 s.site) rfl) (fun i hi => .inl hi)
  rw [hY1] at kk1
  have sy1_1 := (q0.kp kk1 (by omega)).cell 1 (.int .i64 s.site) rfl
  have sy1_4 := (q0.kp kk1 (by omega)).cell 4 (.int .i64 s.at_) rfl
  have sy1_6 := (q0.kp kk1 (by omega)).cell 6 (.string s.text) rfl
  have o1 := p0.cell 4 (.int .i64 0) rfl
  have f1 := p0.frozen 4
  have l1 := p0.lt
  obtain ⟨Y2, hY2⟩ : ∃ Y, Y1.setCell ⟨X1.heap.size, 4, none⟩ (.int .i64 s.at_) = Y := ⟨_, rfl⟩
  have p1 := p0.sets 4 (.int .i64 s.at_)
  rw [hY2] at p1
  have kk2 := kk1.trans (Kp.set (N := fun i => i = X1.heap.size) Y1 ⟨X1.heap.size, 4, none⟩ (.int .i64 s.at_) rfl) (fun i hi => .inl hi)
  rw [hY2] at kk2
  have sy2_1 := (q0.kp kk2 (by omega)).cell 1 (.int .i64 s.site) rfl
  have sy2_4 := (q0.kp kk2 (by omega)).cell 4 (.int .i64 s.at_) rfl
  have sy2_6 := (q0.kp kk2 (by omega)).cell 6 (.string s.text) rfl
  have o2 := p1.cell 6 (.string ⟨#[]⟩) rfl
  have f2 := p1.frozen 6
  have l2 := p1.lt
  obtain ⟨Y3, hY3⟩ : ∃ Y, Y2.setCell ⟨X1.heap.size, 6, none⟩ (.string s.text) = Y := ⟨_, rfl⟩
  have p2 := p1.sets 6 (.string s.text)
  rw [hY3] at p2
  have kk3 := kk2.trans (Kp.set (N := fun i => i = X1.heap.size) Y2 ⟨X1.heap.size, 6, none⟩ (.string s.text) rfl) (fun i hi => .inl hi)
  rw [hY3] at kk3
  have sy3_1 := (q0.kp kk3 (by omega)).cell 1 (.int .i64 s.site) rfl
  have sy3_4 := (q0.kp kk3 (by omega)).cell 4 (.int .i64 s.at_) rfl
  have sy3_6 := (q0.kp kk3 (by omega)).cell 6 (.string s.text) rfl
  have z2 : Bq Y3 X1.heap.size 40 #[.int .i64 1, .int .i64 s.site, .int .i64 0, .int .i64 0, .int .i64 s.at_, .int .i64 0, .string s.text, .slice none 0 0, .slice none 0 0] := p2
  have z1 : Bq Y3 (W.heap.size + 1) 40 zSt := q1.kp kk3 (by omega)
  have hz : ∀ V, Below W.heap.size W V → BrA W0 W s (.returned (.agg #[.int .i64 1, .int .i64 s.site, .int .i64 0, .int .i64 0, .int .i64 s.at_, .int .i64 0, .string s.text, .slice none 0 0, .slice none 0 0])) V := fun V hV => by
    unfold BrA
    rw [hbl]
    exact ⟨_, _, _, _, _, _, rfl, RC.nil _ _ _, RC.nil _ _ _, hV⟩
  have bZ : Below W.heap.size W (Y3.setRow (W.heap.size + 1) #[.int .i64 1, .int .i64 s.site, .int .i64 0, .int .i64 0, .int .i64 s.at_, .int .i64 0, .string s.text, .slice none 0 0, .slice none 0 0]) := (kp_setRow Y3 (W.heap.size + 1) #[.int .i64 1, .int .i64 s.site, .int .i64 0, .int .i64 0, .int .i64 s.at_, .int .i64 0, .string s.text, .slice none 0 0, .slice none 0 0]).below (kk3.below hbX (fun i e => by omega)) (fun i e => by omega)
  have bZd : Below W.heap.size W (Y3.drew.setRow (W.heap.size + 1) #[.int .i64 1, .int .i64 s.site, .int .i64 0, .int .i64 0, .int .i64 s.at_, .int .i64 0, .string s.text, .slice none 0 0, .slice none 0 0]) := (kp_setRow Y3.drew (W.heap.size + 1) #[.int .i64 1, .int .i64 s.site, .int .i64 0, .int .i64 0, .int .i64 s.at_, .int .i64 0, .string s.text, .slice none 0 0, .slice none 0 0]).below ((kk3.below hbX (fun i e => by omega)).drew) (fun i e => by omega)
  have HG := hide (show Bq Y3 X1.heap.size 40 #[.int .i64 1, .int .i64 s.site, .int .i64 0, .int .i64 0, .int .i64 s.at_, .int .i64 0, .string s.text, .slice none 0 0, .slice none 0 0] ∧ Bq Y3 (W.heap.size + 1) 40 zSt from ⟨z2, z1⟩)
  have HO := hide (show (#[.int .i64 1, .int .i64 s.site, .int .i64 0, .int .i64 0, .int .i64 s.at_, .int .i64 0, .string s.text, .slice none 0 0, .slice none 0 0] : Array Value).all (·.oneCell') = true by simp [Value.oneCell'])
  have HZ := hide (And.intro (hz _ bZ) (hz _ bZd))
  clear q0 q1 q2 r0 r1 hb1 hs1 hbX0 z1 z2 hz bZ bZd hbX hd hb hbl kk0 kk1 kk2 kk3 p0 p1 p2
  have HX := hide hX
  clear hX
  go_enter Tryz.func21, Tryz.ntmps21
  go_upto_region 2 with fail
  rw [unhide HX]
  go_upto_region 4 with fail
  go_region
  go_wp2_with (first | refine wpl_loadS rfl _ rfl rfl (unhide HG).1 rfl ?_ | refine wpl_storeS (cs := #[.int .i64 1, .int .i64 s.site, .int .i64 0, .int .i64 0, .int .i64 s.at_, .int .i64 0, .string s.text, .slice none 0 0, .slice none 0 0]) rfl _ _ rfl rfl rfl (unhide HG).2 rfl rfl (unhide HO) ?_)
  refine bodyPost_ret (results_cell_row rfl _ _ (W.heap.size + 1) _ #[.int .i64 1, .int .i64 s.site, .int .i64 0, .int .i64 0, .int .i64 s.at_, .int .i64 0, .string s.text, .slice none 0 0, .slice none 0 0] _ _ rfl (setRow_heap _ _ _ #[.int .i64 1, .int .i64 s.site, .int .i64 0, .int .i64 0, .int .i64 s.at_, .int .i64 0, .string s.text, .slice none 0 0, .slice none 0 0] _ _ (unhide HG).2) Tryz.underlying40 rfl sizeSt) rfl ?_
  first | exact (unhide HZ).1 | exact (unhide HZ).2

set_option maxRecDepth 100000 in
set_option maxHeartbeats 4000000 in
theorem bare2 {W0 W : World} (s : Sp) (a1 : Option Addr) (n1 c1 : Nat) (a2 : Option Addr) (n2 c2 : Nat) (hd : RNm W0 (.slice a1 n1 c1) s.draws) (hb : RBy W0 (.slice a2 n2 c2) s.data) (hk : s.kind = 2) :
    Calls Tryz.prog 21 #[.agg (spC s (.slice a1 n1 c1) (.slice a2 n2 c2))] W (BrA W0 W s) := by
  have hbl : bareL s = ⟨2, s.site, 0, 0, s.at_, s.n, ⟨#[]⟩, [], []⟩ := by
    obtain ⟨k, q1, q2, q3, q4, q5, q6, q7, q8⟩ := s
    simp only at hk
    subst hk
    rfl
  obtain ⟨X1, hX1⟩ : ∃ X, (W.alloc (.cells (spC s (.slice a1 n1 c1) (.slice a2 n2 c2)) 40)).alloc (.cells zSt 40) = X := ⟨_, rfl⟩
  have hb1 : Below W.heap.size W X1 := by rw [← hX1]; exact ballc (ballc (Below.refl _ _) _) _
  have hs1 : X1.heap.size = W.heap.size + 2 := by rw [← hX1]; simp
  have r0 : Bq X1 W.heap.size 40 (spC s (.slice a1 n1 c1) (.slice a2 n2 c2)) := by rw [← hX1]; exact (Bq.new W _ _).keep (ballc (Below.refl _ _) _) (Bq.new W _ _).lt
  have r1 : Bq X1 (W.heap.size + 1) 40 zSt := by
    have h := Bq.new (W.alloc (.cells (spC s (.slice a1 n1 c1) (.slice a2 n2 c2)) 40)) 40 zSt
    rw [World.size_alloc] at h
    rw [← hX1]
    exact h
  obtain ⟨X, hX⟩ : ∃ X, X1.alloc (.cells (spC (sp0 2) (.slice none 0 0) (.slice none 0 0)) 40) = X := ⟨_, rfl⟩
  have hbX0 : Below X1.heap.size X1 X := by rw [← hX]; exact ballc (Below.refl _ _) _
  have hbX : Below W.heap.size W X := bnext hb1 hbX0
  have q0 : Bq X W.heap.size 40 (spC s (.slice a1 n1 c1) (.slice a2 n2 c2)) := r0.keep hbX0 r0.lt
  have q1 : Bq X (W.heap.size + 1) 40 zSt := r1.keep hbX0 r1.lt
  have q2 : Bq X X1.heap.size 40 (spC (sp0 2) (.slice none 0 0) (.slice none 0 0)) := by rw [← hX]; exact Bq.new _ _ _
  have k00 := r0.cell 0 (.int .i64 s.kind) rfl
  rw [hk] at k00
  unfold spC sp0 at hX
  unfold spC zSt at hX1
  rw [hk] at hX1
  unfold spC
  rw [hk]
  have k0 := q0.cell 0 (.int .i64 s.kind) rfl
  rw [hk] at k0
  have s1 := q0.cell 1 (.int .i64 s.site) rfl
  have s4 := q0.cell 4 (.int .i64 s.at_) rfl
  have s5 := q0.cell 5 (.int .i64 s.n) rfl
  have kk0 : Kp (fun i => i = X1.heap.size) X X := Kp.refl _ _
  have o0 := q2.cell 1 (.int .i64 0) rfl
  have f0 := q2.frozen 1
  have l0 := q2.lt
  obtain ⟨Y1, hY1⟩ : ∃ Y, X.setCell ⟨X1.heap.size, 1, none⟩ (.int .i64 s.site) = Y := ⟨_, rfl⟩
  have p0 := q2.sets 1 (.int .i64 s.site)
  rw [hY1] at p0
  have kk1 := kk0.trans (Kp.set (N := fun i => i = X1.heap.size) X ⟨X1.heap.size, 1, none⟩ (.int .i64 s.site) rfl) (fun i hi => .inl hi)
  rw [hY1] at kk1
  have sy1_1 := (q0.kp kk1 (by omega)).cell 1 (.int .i64 s.site) rfl
  have sy1_4 := (q0.kp kk1 (by omega)).cell 4 (.int .i64 s.at_) rfl
  have sy1_5 := (q0.kp kk1 (by omega)).cell 5 (.int .i64 s.n) rfl
  have o1 := p0.cell 4 (.int .i64 0) rfl
  have f1 := p0.frozen 4
  have l1 := p0.lt
  obtain ⟨Y2, hY2⟩ : ∃ Y, Y1.setCell ⟨X1.heap.size, 4, none⟩ (.int .i64 s.at_) = Y := ⟨_, rfl⟩
  have p1 := p0.sets 4 (.int .i64 s.at_)
  rw [hY2] at p1
  have kk2 := kk1.trans (Kp.set (N := fun i => i = X1.heap.size) Y1 ⟨X1.heap.size, 4, none⟩ (.int .i64 s.at_) rfl) (fun i hi => .inl hi)
  rw [hY2] at kk2
  have sy2_1 := (q0.kp kk2 (by omega)).cell 1 (.int .i64 s.site) rfl
  have sy2_4 := (q0.kp kk2 (by omega)).cell 4 (.int .i64 s.at_) rfl
  have sy2_5 := (q0.kp kk2 (by omega)).cell 5 (.int .i64 s.n) rfl
  have o2 := p1.cell 5 (.int .i64 0) rfl
  have f2 := p1.frozen 5
  have l2 := p1.lt
  obtain ⟨Y3, hY3⟩ : ∃ Y, Y2.setCell ⟨X1.heap.size, 5, none⟩ (.int .i64 s.n) = Y := ⟨_, rfl⟩
  have p2 := p1.sets 5 (.int .i64 s.n)
  rw [hY3] at p2
  have kk3 := kk2.trans (Kp.set (N := fun i => i = X1.heap.size) Y2 ⟨X1.heap.size, 5, none⟩ (.int .i64 s.n) rfl) (fun i hi => .inl hi)
  rw [hY3] at kk3
  have sy3_1 := (q0.kp kk3 (by omega)).cell 1 (.int .i64 s.site) rfl
  have sy3_4 := (q0.kp kk3 (by omega)).cell 4 (.int .i64 s.at_) rfl
  have sy3_5 := (q0.kp kk3 (by omega)).cell 5 (.int .i64 s.n) rfl
  have z2 : Bq Y3 X1.heap.size 40 #[.int .i64 2, .int .i64 s.site, .int .i64 0, .int .i64 0, .int .i64 s.at_, .int .i64 s.n, .string ⟨#[]⟩, .slice none 0 0, .slice none 0 0] := p2
  have z1 : Bq Y3 (W.heap.size + 1) 40 zSt := q1.kp kk3 (by omega)
  have hz : ∀ V, Below W.heap.size W V → BrA W0 W s (.returned (.agg #[.int .i64 2, .int .i64 s.site, .int .i64 0, .int .i64 0, .int .i64 s.at_, .int .i64 s.n, .string ⟨#[]⟩, .slice none 0 0, .slice none 0 0])) V := fun V hV => by
    unfold BrA
    rw [hbl]
    exact ⟨_, _, _, _, _, _, rfl, RC.nil _ _ _, RC.nil _ _ _, hV⟩
  have bZ : Below W.heap.size W (Y3.setRow (W.heap.size + 1) #[.int .i64 2, .int .i64 s.site, .int .i64 0, .int .i64 0, .int .i64 s.at_, .int .i64 s.n, .string ⟨#[]⟩, .slice none 0 0, .slice none 0 0]) := (kp_setRow Y3 (W.heap.size + 1) #[.int .i64 2, .int .i64 s.site, .int .i64 0, .int .i64 0, .int .i64 s.at_, .int .i64 s.n, .string ⟨#[]⟩, .slice none 0 0, .slice none 0 0]).below (kk3.below hbX (fun i e => by omega)) (fun i e => by omega)
  have bZd : Below W.heap.size W (Y3.drew.setRow (W.heap.size + 1) #[.int .i64 2, .int .i64 s.site, .int .i64 0, .int .i64 0, .int .i64 s.at_, .int .i64 s.n, .string ⟨#[]⟩, .slice none 0 0, .slice none 0 0]) := (kp_setRow Y3.drew (W.heap.size + 1) #[.int .i64 2, .int .i64 s.site, .int .i64 0, .int .i64 0, .int .i64 s.at_, .int .i64 s.n, .string ⟨#[]⟩, .slice none 0 0, .slice none 0 0]).below ((kk3.below hbX (fun i e => by omega)).drew) (fun i e => by omega)
  have HG := hide (show Bq Y3 X1.heap.size 40 #[.int .i64 2, .int .i64 s.site, .int .i64 0, .int .i64 0, .int .i64 s.at_, .int .i64 s.n, .string ⟨#[]⟩, .slice none 0 0, .slice none 0 0] ∧ Bq Y3 (W.heap.size + 1) 40 zSt from ⟨z2, z1⟩)
  have HO := hide (show (#[.int .i64 2, .int .i64 s.site, .int .i64 0, .int .i64 0, .int .i64 s.at_, .int .i64 s.n, .string ⟨#[]⟩, .slice none 0 0, .slice none 0 0] : Array Value).all (·.oneCell') = true by simp [Value.oneCell'])
  have HZ := hide (And.intro (hz _ bZ) (hz _ bZd))
  clear q0 q1 q2 r0 r1 hb1 hs1 hbX0 z1 z2 hz bZ bZd hbX hd hb hbl kk0 kk1 kk2 kk3 p0 p1 p2
  have HX := hide hX
  clear hX
  go_enter Tryz.func21, Tryz.ntmps21
  go_upto_region 2 with fail
  rw [unhide HX]
  go_upto_region 6 with fail
  go_region
  go_wp2_with (first | refine wpl_loadS rfl _ rfl rfl (unhide HG).1 rfl ?_ | refine wpl_storeS (cs := #[.int .i64 2, .int .i64 s.site, .int .i64 0, .int .i64 0, .int .i64 s.at_, .int .i64 s.n, .string ⟨#[]⟩, .slice none 0 0, .slice none 0 0]) rfl _ _ rfl rfl rfl (unhide HG).2 rfl rfl (unhide HO) ?_)
  refine bodyPost_ret (results_cell_row rfl _ _ (W.heap.size + 1) _ #[.int .i64 2, .int .i64 s.site, .int .i64 0, .int .i64 0, .int .i64 s.at_, .int .i64 s.n, .string ⟨#[]⟩, .slice none 0 0, .slice none 0 0] _ _ rfl (setRow_heap _ _ _ #[.int .i64 2, .int .i64 s.site, .int .i64 0, .int .i64 0, .int .i64 s.at_, .int .i64 s.n, .string ⟨#[]⟩, .slice none 0 0, .slice none 0 0] _ _ (unhide HG).2) Tryz.underlying40 rfl sizeSt) rfl ?_
  first | exact (unhide HZ).1 | exact (unhide HZ).2

set_option maxRecDepth 100000 in
set_option maxHeartbeats 4000000 in
theorem bare3 {W0 W : World} (s : Sp) (a1 : Option Addr) (n1 c1 : Nat) (a2 : Option Addr) (n2 c2 : Nat) (hd : RNm W0 (.slice a1 n1 c1) s.draws) (hb : RBy W0 (.slice a2 n2 c2) s.data) (hk : s.kind = 3) :
    Calls Tryz.prog 21 #[.agg (spC s (.slice a1 n1 c1) (.slice a2 n2 c2))] W (BrA W0 W s) := by
  have hbl : bareL s = ⟨3, s.site, s.peer, 0, 0, 0, ⟨#[]⟩, [], []⟩ := by
    obtain ⟨k, q1, q2, q3, q4, q5, q6, q7, q8⟩ := s
    simp only at hk
    subst hk
    rfl
  obtain ⟨X1, hX1⟩ : ∃ X, (W.alloc (.cells (spC s (.slice a1 n1 c1) (.slice a2 n2 c2)) 40)).alloc (.cells zSt 40) = X := ⟨_, rfl⟩
  have hb1 : Below W.heap.size W X1 := by rw [← hX1]; exact ballc (ballc (Below.refl _ _) _) _
  have hs1 : X1.heap.size = W.heap.size + 2 := by rw [← hX1]; simp
  have r0 : Bq X1 W.heap.size 40 (spC s (.slice a1 n1 c1) (.slice a2 n2 c2)) := by rw [← hX1]; exact (Bq.new W _ _).keep (ballc (Below.refl _ _) _) (Bq.new W _ _).lt
  have r1 : Bq X1 (W.heap.size + 1) 40 zSt := by
    have h := Bq.new (W.alloc (.cells (spC s (.slice a1 n1 c1) (.slice a2 n2 c2)) 40)) 40 zSt
    rw [World.size_alloc] at h
    rw [← hX1]
    exact h
  obtain ⟨X, hX⟩ : ∃ X, X1.alloc (.cells (spC (sp0 3) (.slice none 0 0) (.slice none 0 0)) 40) = X := ⟨_, rfl⟩
  have hbX0 : Below X1.heap.size X1 X := by rw [← hX]; exact ballc (Below.refl _ _) _
  have hbX : Below W.heap.size W X := bnext hb1 hbX0
  have q0 : Bq X W.heap.size 40 (spC s (.slice a1 n1 c1) (.slice a2 n2 c2)) := r0.keep hbX0 r0.lt
  have q1 : Bq X (W.heap.size + 1) 40 zSt := r1.keep hbX0 r1.lt
  have q2 : Bq X X1.heap.size 40 (spC (sp0 3) (.slice none 0 0) (.slice none 0 0)) := by rw [← hX]; exact Bq.new _ _ _
  have k00 := r0.cell 0 (.int .i64 s.kind) rfl
  rw [hk] at k00
  unfold spC sp0 at hX
  unfold spC zSt at hX1
  rw [hk] at hX1
  unfold spC
  rw [hk]
  have k0 := q0.cell 0 (.int .i64 s.kind) rfl
  rw [hk] at k0
  have s1 := q0.cell 1 (.int .i64 s.site) rfl
  have s2 := q0.cell 2 (.int .i64 s.peer) rfl
  have kk0 : Kp (fun i => i = X1.heap.size) X X := Kp.refl _ _
  have o0 := q2.cell 1 (.int .i64 0) rfl
  have f0 := q2.frozen 1
  have l0 := q2.lt
  obtain ⟨Y1, hY1⟩ : ∃ Y, X.setCell ⟨X1.heap.size, 1, none⟩ (.int .i64 s.site) = Y := ⟨_, rfl⟩
  have p0 := q2.sets 1 (.int .i64 s.site)
  rw [hY1] at p0
  have kk1 := kk0.trans (Kp.set (N := fun i => i = X1.heap.size) X ⟨X1.heap.size, 1, none⟩ (.int .i64 s.site) rfl) (fun i hi => .inl hi)
  rw [hY1] at kk1
  have sy1_1 := (q0.kp kk1 (by omega)).cell 1 (.int .i64 s.site) rfl
  have sy1_2 := (q0.kp kk1 (by omega)).cell 2 (.int .i64 s.peer) rfl
  have o1 := p0.cell 2 (.int .i64 0) rfl
  have f1 := p0.frozen 2
  have l1 := p0.lt
  obtain ⟨Y2, hY2⟩ : ∃ Y, Y1.setCell ⟨X1.heap.size, 2, none⟩ (.int .i64 s.peer) = Y := ⟨_, rfl⟩
  have p1 := p0.sets 2 (.int .i64 s.peer)
  rw [hY2] at p1
  have kk2 := kk1.trans (Kp.set (N := fun i => i = X1.heap.size) Y1 ⟨X1.heap.size, 2, none⟩ (.int .i64 s.peer) rfl) (fun i hi => .inl hi)
  rw [hY2] at kk2
  have sy2_1 := (q0.kp kk2 (by omega)).cell 1 (.int .i64 s.site) rfl
  have sy2_2 := (q0.kp kk2 (by omega)).cell 2 (.int .i64 s.peer) rfl
  have z2 : Bq Y2 X1.heap.size 40 #[.int .i64 3, .int .i64 s.site, .int .i64 s.peer, .int .i64 0, .int .i64 0, .int .i64 0, .string ⟨#[]⟩, .slice none 0 0, .slice none 0 0] := p1
  have z1 : Bq Y2 (W.heap.size + 1) 40 zSt := q1.kp kk2 (by omega)
  have hz : ∀ V, Below W.heap.size W V → BrA W0 W s (.returned (.agg #[.int .i64 3, .int .i64 s.site, .int .i64 s.peer, .int .i64 0, .int .i64 0, .int .i64 0, .string ⟨#[]⟩, .slice none 0 0, .slice none 0 0])) V := fun V hV => by
    unfold BrA
    rw [hbl]
    exact ⟨_, _, _, _, _, _, rfl, RC.nil _ _ _, RC.nil _ _ _, hV⟩
  have bZ : Below W.heap.size W (Y2.setRow (W.heap.size + 1) #[.int .i64 3, .int .i64 s.site, .int .i64 s.peer, .int .i64 0, .int .i64 0, .int .i64 0, .string ⟨#[]⟩, .slice none 0 0, .slice none 0 0]) := (kp_setRow Y2 (W.heap.size + 1) #[.int .i64 3, .int .i64 s.site, .int .i64 s.peer, .int .i64 0, .int .i64 0, .int .i64 0, .string ⟨#[]⟩, .slice none 0 0, .slice none 0 0]).below (kk2.below hbX (fun i e => by omega)) (fun i e => by omega)
  have bZd : Below W.heap.size W (Y2.drew.setRow (W.heap.size + 1) #[.int .i64 3, .int .i64 s.site, .int .i64 s.peer, .int .i64 0, .int .i64 0, .int .i64 0, .string ⟨#[]⟩, .slice none 0 0, .slice none 0 0]) := (kp_setRow Y2.drew (W.heap.size + 1) #[.int .i64 3, .int .i64 s.site, .int .i64 s.peer, .int .i64 0, .int .i64 0, .int .i64 0, .string ⟨#[]⟩, .slice none 0 0, .slice none 0 0]).below ((kk2.below hbX (fun i e => by omega)).drew) (fun i e => by omega)
  have HG := hide (show Bq Y2 X1.heap.size 40 #[.int .i64 3, .int .i64 s.site, .int .i64 s.peer, .int .i64 0, .int .i64 0, .int .i64 0, .string ⟨#[]⟩, .slice none 0 0, .slice none 0 0] ∧ Bq Y2 (W.heap.size + 1) 40 zSt from ⟨z2, z1⟩)
  have HO := hide (show (#[.int .i64 3, .int .i64 s.site, .int .i64 s.peer, .int .i64 0, .int .i64 0, .int .i64 0, .string ⟨#[]⟩, .slice none 0 0, .slice none 0 0] : Array Value).all (·.oneCell') = true by simp [Value.oneCell'])
  have HZ := hide (And.intro (hz _ bZ) (hz _ bZd))
  clear q0 q1 q2 r0 r1 hb1 hs1 hbX0 z1 z2 hz bZ bZd hbX hd hb hbl kk0 kk1 kk2 p0 p1
  have HX := hide hX
  clear hX
  go_enter Tryz.func21, Tryz.ntmps21
  go_upto_region 2 with fail
  rw [unhide HX]
  go_upto_region 8 with fail
  go_region
  go_wp2_with (first | refine wpl_loadS rfl _ rfl rfl (unhide HG).1 rfl ?_ | refine wpl_storeS (cs := #[.int .i64 3, .int .i64 s.site, .int .i64 s.peer, .int .i64 0, .int .i64 0, .int .i64 0, .string ⟨#[]⟩, .slice none 0 0, .slice none 0 0]) rfl _ _ rfl rfl rfl (unhide HG).2 rfl rfl (unhide HO) ?_)
  refine bodyPost_ret (results_cell_row rfl _ _ (W.heap.size + 1) _ #[.int .i64 3, .int .i64 s.site, .int .i64 s.peer, .int .i64 0, .int .i64 0, .int .i64 0, .string ⟨#[]⟩, .slice none 0 0, .slice none 0 0] _ _ rfl (setRow_heap _ _ _ #[.int .i64 3, .int .i64 s.site, .int .i64 s.peer, .int .i64 0, .int .i64 0, .int .i64 0, .string ⟨#[]⟩, .slice none 0 0, .slice none 0 0] _ _ (unhide HG).2) Tryz.underlying40 rfl sizeSt) rfl ?_
  first | exact (unhide HZ).1 | exact (unhide HZ).2

set_option maxRecDepth 100000 in
set_option maxHeartbeats 4000000 in
theorem bare4 {W0 W : World} (s : Sp) (a1 : Option Addr) (n1 c1 : Nat) (a2 : Option Addr) (n2 c2 : Nat) (hd : RNm W0 (.slice a1 n1 c1) s.draws) (hb : RBy W0 (.slice a2 n2 c2) s.data) (hk : s.kind = 4) :
    Calls Tryz.prog 21 #[.agg (spC s (.slice a1 n1 c1) (.slice a2 n2 c2))] W (BrA W0 W s) := by
  have hbl : bareL s = ⟨4, s.site, 0, 0, 0, 0, ⟨#[]⟩, [], []⟩ := by
    obtain ⟨k, q1, q2, q3, q4, q5, q6, q7, q8⟩ := s
    simp only at hk
    subst hk
    rfl
  obtain ⟨X1, hX1⟩ : ∃ X, (W.alloc (.cells (spC s (.slice a1 n1 c1) (.slice a2 n2 c2)) 40)).alloc (.cells zSt 40) = X := ⟨_, rfl⟩
  have hb1 : Below W.heap.size W X1 := by rw [← hX1]; exact ballc (ballc (Below.refl _ _) _) _
  have hs1 : X1.heap.size = W.heap.size + 2 := by rw [← hX1]; simp
  have r0 : Bq X1 W.heap.size 40 (spC s (.slice a1 n1 c1) (.slice a2 n2 c2)) := by rw [← hX1]; exact (Bq.new W _ _).keep (ballc (Below.refl _ _) _) (Bq.new W _ _).lt
  have r1 : Bq X1 (W.heap.size + 1) 40 zSt := by
    have h := Bq.new (W.alloc (.cells (spC s (.slice a1 n1 c1) (.slice a2 n2 c2)) 40)) 40 zSt
    rw [World.size_alloc] at h
    rw [← hX1]
    exact h
  obtain ⟨X, hX⟩ : ∃ X, X1.alloc (.cells (spC (sp0 4) (.slice none 0 0) (.slice none 0 0)) 40) = X := ⟨_, rfl⟩
  have hbX0 : Below X1.heap.size X1 X := by rw [← hX]; exact ballc (Below.refl _ _) _
  have hbX : Below W.heap.size W X := bnext hb1 hbX0
  have q0 : Bq X W.heap.size 40 (spC s (.slice a1 n1 c1) (.slice a2 n2 c2)) := r0.keep hbX0 r0.lt
  have q1 : Bq X (W.heap.size + 1) 40 zSt := r1.keep hbX0 r1.lt
  have q2 : Bq X X1.heap.size 40 (spC (sp0 4) (.slice none 0 0) (.slice none 0 0)) := by rw [← hX]; exact Bq.new _ _ _
  have k00 := r0.cell 0 (.int .i64 s.kind) rfl
  rw [hk] at k00
  unfold spC sp0 at hX
  unfold spC zSt at hX1
  rw [hk] at hX1
  unfold spC
  rw [hk]
  have k0 := q0.cell 0 (.int .i64 s.kind) rfl
  rw [hk] at k0
  have s1 := q0.cell 1 (.int .i64 s.site) rfl
  have kk0 : Kp (fun i => i = X1.heap.size) X X := Kp.refl _ _
  have o0 := q2.cell 1 (.int .i64 0) rfl
  have f0 := q2.frozen 1
  have l0 := q2.lt
  obtain ⟨Y1, hY1⟩ : ∃ Y, X.setCell ⟨X1.heap.size, 1, none⟩ (.int .i64 s.site) = Y := ⟨_, rfl⟩
  have p0 := q2.sets 1 (.int .i64 s.site)
  rw [hY1] at p0
  have kk1 := kk0.trans (Kp.set (N := fun i => i = X1.heap.size) X ⟨X1.heap.size, 1, none⟩ (.int .i64 s.site) rfl) (fun i hi => .inl hi)
  rw [hY1] at kk1
  have sy1_1 := (q0.kp kk1 (by omega)).cell 1 (.int .i64 s.site) rfl
  have z2 : Bq Y1 X1.heap.size 40 #[.int .i64 4, .int .i64 s.site, .int .i64 0, .int .i64 0, .int .i64 0, .int .i64 0, .string ⟨#[]⟩, .slice none 0 0, .slice none 0 0] := p0
  have z1 : Bq Y1 (W.heap.size + 1) 40 zSt := q1.kp kk1 (by omega)
  have hz : ∀ V, Below W.heap.size W V → BrA W0 W s (.returned (.agg #[.int .i64 4, .int .i64 s.site, .int .i64 0, .int .i64 0, .int .i64 0, .int .i64 0, .string ⟨#[]⟩, .slice none 0 0, .slice none 0 0])) V := fun V hV => by
    unfold BrA
    rw [hbl]
    exact ⟨_, _, _, _, _, _, rfl, RC.nil _ _ _, RC.nil _ _ _, hV⟩
  have bZ : Below W.heap.size W (Y1.setRow (W.heap.size + 1) #[.int .i64 4, .int .i64 s.site, .int .i64 0, .int .i64 0, .int .i64 0, .int .i64 0, .string ⟨#[]⟩, .slice none 0 0, .slice none 0 0]) := (kp_setRow Y1 (W.heap.size + 1) #[.int .i64 4, .int .i64 s.site, .int .i64 0, .int .i64 0, .int .i64 0, .int .i64 0, .string ⟨#[]⟩, .slice none 0 0, .slice none 0 0]).below (kk1.below hbX (fun i e => by omega)) (fun i e => by omega)
  have bZd : Below W.heap.size W (Y1.drew.setRow (W.heap.size + 1) #[.int .i64 4, .int .i64 s.site, .int .i64 0, .int .i64 0, .int .i64 0, .int .i64 0, .string ⟨#[]⟩, .slice none 0 0, .slice none 0 0]) := (kp_setRow Y1.drew (W.heap.size + 1) #[.int .i64 4, .int .i64 s.site, .int .i64 0, .int .i64 0, .int .i64 0, .int .i64 0, .string ⟨#[]⟩, .slice none 0 0, .slice none 0 0]).below ((kk1.below hbX (fun i e => by omega)).drew) (fun i e => by omega)
  have HG := hide (show Bq Y1 X1.heap.size 40 #[.int .i64 4, .int .i64 s.site, .int .i64 0, .int .i64 0, .int .i64 0, .int .i64 0, .string ⟨#[]⟩, .slice none 0 0, .slice none 0 0] ∧ Bq Y1 (W.heap.size + 1) 40 zSt from ⟨z2, z1⟩)
  have HO := hide (show (#[.int .i64 4, .int .i64 s.site, .int .i64 0, .int .i64 0, .int .i64 0, .int .i64 0, .string ⟨#[]⟩, .slice none 0 0, .slice none 0 0] : Array Value).all (·.oneCell') = true by simp [Value.oneCell'])
  have HZ := hide (And.intro (hz _ bZ) (hz _ bZd))
  clear q0 q1 q2 r0 r1 hb1 hs1 hbX0 z1 z2 hz bZ bZd hbX hd hb hbl kk0 kk1 p0
  have HX := hide hX
  clear hX
  go_enter Tryz.func21, Tryz.ntmps21
  go_upto_region 2 with fail
  rw [unhide HX]
  go_wp2_with (first | refine wpl_loadS rfl _ rfl rfl (unhide HG).1 rfl ?_ | refine wpl_storeS (cs := #[.int .i64 4, .int .i64 s.site, .int .i64 0, .int .i64 0, .int .i64 0, .int .i64 0, .string ⟨#[]⟩, .slice none 0 0, .slice none 0 0]) rfl _ _ rfl rfl rfl (unhide HG).2 rfl rfl (unhide HO) ?_)
  refine bodyPost_ret (results_cell_row rfl _ _ (W.heap.size + 1) _ #[.int .i64 4, .int .i64 s.site, .int .i64 0, .int .i64 0, .int .i64 0, .int .i64 0, .string ⟨#[]⟩, .slice none 0 0, .slice none 0 0] _ _ rfl (setRow_heap _ _ _ #[.int .i64 4, .int .i64 s.site, .int .i64 0, .int .i64 0, .int .i64 0, .int .i64 0, .string ⟨#[]⟩, .slice none 0 0, .slice none 0 0] _ _ (unhide HG).2) Tryz.underlying40 rfl sizeSt) rfl ?_
  first | exact (unhide HZ).1 | exact (unhide HZ).2

set_option maxRecDepth 100000 in
set_option maxHeartbeats 4000000 in
theorem bare5 {W0 W : World} (s : Sp) (a1 : Option Addr) (n1 c1 : Nat) (a2 : Option Addr) (n2 c2 : Nat) (hd : RNm W0 (.slice a1 n1 c1) s.draws) (hb : RBy W0 (.slice a2 n2 c2) s.data) (hk : s.kind = 5) :
    Calls Tryz.prog 21 #[.agg (spC s (.slice a1 n1 c1) (.slice a2 n2 c2))] W (BrA W0 W s) := by
  have hbl : bareL s = ⟨5, s.site, 0, 0, 0, 0, ⟨#[]⟩, [], []⟩ := by
    obtain ⟨k, q1, q2, q3, q4, q5, q6, q7, q8⟩ := s
    simp only at hk
    subst hk
    rfl
  obtain ⟨X1, hX1⟩ : ∃ X, (W.alloc (.cells (spC s (.slice a1 n1 c1) (.slice a2 n2 c2)) 40)).alloc (.cells zSt 40) = X := ⟨_, rfl⟩
  have hb1 : Below W.heap.size W X1 := by rw [← hX1]; exact ballc (ballc (Below.refl _ _) _) _
  have hs1 : X1.heap.size = W.heap.size + 2 := by rw [← hX1]; simp
  have r0 : Bq X1 W.heap.size 40 (spC s (.slice a1 n1 c1) (.slice a2 n2 c2)) := by rw [← hX1]; exact (Bq.new W _ _).keep (ballc (Below.refl _ _) _) (Bq.new W _ _).lt
  have r1 : Bq X1 (W.heap.size + 1) 40 zSt := by
    have h := Bq.new (W.alloc (.cells (spC s (.slice a1 n1 c1) (.slice a2 n2 c2)) 40)) 40 zSt
    rw [World.size_alloc] at h
    rw [← hX1]
    exact h
  obtain ⟨X, hX⟩ : ∃ X, X1.alloc (.cells (spC (sp0 5) (.slice none 0 0) (.slice none 0 0)) 40) = X := ⟨_, rfl⟩
  have hbX0 : Below X1.heap.size X1 X := by rw [← hX]; exact ballc (Below.refl _ _) _
  have hbX : Below W.heap.size W X := bnext hb1 hbX0
  have q0 : Bq X W.heap.size 40 (spC s (.slice a1 n1 c1) (.slice a2 n2 c2)) := r0.keep hbX0 r0.lt
  have q1 : Bq X (W.heap.size + 1) 40 zSt := r1.keep hbX0 r1.lt
  have q2 : Bq X X1.heap.size 40 (spC (sp0 5) (.slice none 0 0) (.slice none 0 0)) := by rw [← hX]; exact Bq.new _ _ _
  have k00 := r0.cell 0 (.int .i64 s.kind) rfl
  rw [hk] at k00
  unfold spC sp0 at hX
  unfold spC zSt at hX1
  rw [hk] at hX1
  unfold spC
  rw [hk]
  have k0 := q0.cell 0 (.int .i64 s.kind) rfl
  rw [hk] at k0
  have s1 := q0.cell 1 (.int .i64 s.site) rfl
  have kk0 : Kp (fun i => i = X1.heap.size) X X := Kp.refl _ _
  have o0 := q2.cell 1 (.int .i64 0) rfl
  have f0 := q2.frozen 1
  have l0 := q2.lt
  obtain ⟨Y1, hY1⟩ : ∃ Y, X.setCell ⟨X1.heap.size, 1, none⟩ (.int .i64 s.site) = Y := ⟨_, rfl⟩
  have p0 := q2.sets 1 (.int .i64 s.site)
  rw [hY1] at p0
  have kk1 := kk0.trans (Kp.set (N := fun i => i = X1.heap.size) X ⟨X1.heap.size, 1, none⟩ (.int .i64 s.site) rfl) (fun i hi => .inl hi)
  rw [hY1] at kk1
  have sy1_1 := (q0.kp kk1 (by omega)).cell 1 (.int .i64 s.site) rfl
  have z2 : Bq Y1 X1.heap.size 40 #[.int .i64 5, .int .i64 s.site, .int .i64 0, .int .i64 0, .int .i64 0, .int .i64 0, .string ⟨#[]⟩, .slice none 0 0, .slice none 0 0] := p0
  have z1 : Bq Y1 (W.heap.size + 1) 40 zSt := q1.kp kk1 (by omega)
  have hz : ∀ V, Below W.heap.size W V → BrA W0 W s (.returned (.agg #[.int .i64 5, .int .i64 s.site, .int .i64 0, .int .i64 0, .int .i64 0, .int .i64 0, .string ⟨#[]⟩, .slice none 0 0, .slice none 0 0])) V := fun V hV => by
    unfold BrA
    rw [hbl]
    exact ⟨_, _, _, _, _, _, rfl, RC.nil _ _ _, RC.nil _ _ _, hV⟩
  have bZ : Below W.heap.size W (Y1.setRow (W.heap.size + 1) #[.int .i64 5, .int .i64 s.site, .int .i64 0, .int .i64 0, .int .i64 0, .int .i64 0, .string ⟨#[]⟩, .slice none 0 0, .slice none 0 0]) := (kp_setRow Y1 (W.heap.size + 1) #[.int .i64 5, .int .i64 s.site, .int .i64 0, .int .i64 0, .int .i64 0, .int .i64 0, .string ⟨#[]⟩, .slice none 0 0, .slice none 0 0]).below (kk1.below hbX (fun i e => by omega)) (fun i e => by omega)
  have bZd : Below W.heap.size W (Y1.drew.setRow (W.heap.size + 1) #[.int .i64 5, .int .i64 s.site, .int .i64 0, .int .i64 0, .int .i64 0, .int .i64 0, .string ⟨#[]⟩, .slice none 0 0, .slice none 0 0]) := (kp_setRow Y1.drew (W.heap.size + 1) #[.int .i64 5, .int .i64 s.site, .int .i64 0, .int .i64 0, .int .i64 0, .int .i64 0, .string ⟨#[]⟩, .slice none 0 0, .slice none 0 0]).below ((kk1.below hbX (fun i e => by omega)).drew) (fun i e => by omega)
  have HG := hide (show Bq Y1 X1.heap.size 40 #[.int .i64 5, .int .i64 s.site, .int .i64 0, .int .i64 0, .int .i64 0, .int .i64 0, .string ⟨#[]⟩, .slice none 0 0, .slice none 0 0] ∧ Bq Y1 (W.heap.size + 1) 40 zSt from ⟨z2, z1⟩)
  have HO := hide (show (#[.int .i64 5, .int .i64 s.site, .int .i64 0, .int .i64 0, .int .i64 0, .int .i64 0, .string ⟨#[]⟩, .slice none 0 0, .slice none 0 0] : Array Value).all (·.oneCell') = true by simp [Value.oneCell'])
  have HZ := hide (And.intro (hz _ bZ) (hz _ bZd))
  clear q0 q1 q2 r0 r1 hb1 hs1 hbX0 z1 z2 hz bZ bZd hbX hd hb hbl kk0 kk1 p0
  have HX := hide hX
  clear hX
  go_enter Tryz.func21, Tryz.ntmps21
  go_upto_region 2 with fail
  rw [unhide HX]
  go_wp2_with (first | refine wpl_loadS rfl _ rfl rfl (unhide HG).1 rfl ?_ | refine wpl_storeS (cs := #[.int .i64 5, .int .i64 s.site, .int .i64 0, .int .i64 0, .int .i64 0, .int .i64 0, .string ⟨#[]⟩, .slice none 0 0, .slice none 0 0]) rfl _ _ rfl rfl rfl (unhide HG).2 rfl rfl (unhide HO) ?_)
  refine bodyPost_ret (results_cell_row rfl _ _ (W.heap.size + 1) _ #[.int .i64 5, .int .i64 s.site, .int .i64 0, .int .i64 0, .int .i64 0, .int .i64 0, .string ⟨#[]⟩, .slice none 0 0, .slice none 0 0] _ _ rfl (setRow_heap _ _ _ #[.int .i64 5, .int .i64 s.site, .int .i64 0, .int .i64 0, .int .i64 0, .int .i64 0, .string ⟨#[]⟩, .slice none 0 0, .slice none 0 0] _ _ (unhide HG).2) Tryz.underlying40 rfl sizeSt) rfl ?_
  first | exact (unhide HZ).1 | exact (unhide HZ).2

set_option maxRecDepth 100000 in
set_option maxHeartbeats 4000000 in
theorem bare6 {W0 W : World} (s : Sp) (a1 : Option Addr) (n1 c1 : Nat) (a2 : Option Addr) (n2 c2 : Nat) (hd : RNm W0 (.slice a1 n1 c1) s.draws) (hb : RBy W0 (.slice a2 n2 c2) s.data) (hk : s.kind = 6) :
    Calls Tryz.prog 21 #[.agg (spC s (.slice a1 n1 c1) (.slice a2 n2 c2))] W (BrA W0 W s) := by
  have hbl : bareL s = ⟨6, 0, 0, 0, 0, 0, ⟨#[]⟩, s.draws, []⟩ := by
    obtain ⟨k, q1, q2, q3, q4, q5, q6, q7, q8⟩ := s
    simp only at hk
    subst hk
    rfl
  obtain ⟨X1, hX1⟩ : ∃ X, (W.alloc (.cells (spC s (.slice a1 n1 c1) (.slice a2 n2 c2)) 40)).alloc (.cells zSt 40) = X := ⟨_, rfl⟩
  have hb1 : Below W.heap.size W X1 := by rw [← hX1]; exact ballc (ballc (Below.refl _ _) _) _
  have hs1 : X1.heap.size = W.heap.size + 2 := by rw [← hX1]; simp
  have r0 : Bq X1 W.heap.size 40 (spC s (.slice a1 n1 c1) (.slice a2 n2 c2)) := by rw [← hX1]; exact (Bq.new W _ _).keep (ballc (Below.refl _ _) _) (Bq.new W _ _).lt
  have r1 : Bq X1 (W.heap.size + 1) 40 zSt := by
    have h := Bq.new (W.alloc (.cells (spC s (.slice a1 n1 c1) (.slice a2 n2 c2)) 40)) 40 zSt
    rw [World.size_alloc] at h
    rw [← hX1]
    exact h
  obtain ⟨X, hX⟩ : ∃ X, X1.alloc (.cells (spC (sp0 6) (.slice none 0 0) (.slice none 0 0)) 40) = X := ⟨_, rfl⟩
  have hbX0 : Below X1.heap.size X1 X := by rw [← hX]; exact ballc (Below.refl _ _) _
  have hbX : Below W.heap.size W X := bnext hb1 hbX0
  have q0 : Bq X W.heap.size 40 (spC s (.slice a1 n1 c1) (.slice a2 n2 c2)) := r0.keep hbX0 r0.lt
  have q1 : Bq X (W.heap.size + 1) 40 zSt := r1.keep hbX0 r1.lt
  have q2 : Bq X X1.heap.size 40 (spC (sp0 6) (.slice none 0 0) (.slice none 0 0)) := by rw [← hX]; exact Bq.new _ _ _
  have k00 := r0.cell 0 (.int .i64 s.kind) rfl
  rw [hk] at k00
  unfold spC sp0 at hX
  unfold spC zSt at hX1
  rw [hk] at hX1
  unfold spC
  rw [hk]
  have k0 := q0.cell 0 (.int .i64 s.kind) rfl
  rw [hk] at k0
  have s7 := q0.cell 7 (.slice a1 n1 c1) rfl
  have kk0 : Kp (fun i => i = X1.heap.size) X X := Kp.refl _ _
  have o0 := q2.cell 7 (.slice none 0 0) rfl
  have f0 := q2.frozen 7
  have l0 := q2.lt
  obtain ⟨Y1, hY1⟩ : ∃ Y, X.setCell ⟨X1.heap.size, 7, none⟩ (.slice a1 n1 c1) = Y := ⟨_, rfl⟩
  have p0 := q2.sets 7 (.slice a1 n1 c1)
  rw [hY1] at p0
  have kk1 := kk0.trans (Kp.set (N := fun i => i = X1.heap.size) X ⟨X1.heap.size, 7, none⟩ (.slice a1 n1 c1) rfl) (fun i hi => .inl hi)
  rw [hY1] at kk1
  have sy1_7 := (q0.kp kk1 (by omega)).cell 7 (.slice a1 n1 c1) rfl
  have z2 : Bq Y1 X1.heap.size 40 #[.int .i64 6, .int .i64 0, .int .i64 0, .int .i64 0, .int .i64 0, .int .i64 0, .string ⟨#[]⟩, .slice a1 n1 c1, .slice none 0 0] := p0
  have z1 : Bq Y1 (W.heap.size + 1) 40 zSt := q1.kp kk1 (by omega)
  have hz : ∀ V, Below W.heap.size W V → BrA W0 W s (.returned (.agg #[.int .i64 6, .int .i64 0, .int .i64 0, .int .i64 0, .int .i64 0, .int .i64 0, .string ⟨#[]⟩, .slice a1 n1 c1, .slice none 0 0])) V := fun V hV => by
    unfold BrA
    rw [hbl]
    exact ⟨_, _, _, _, _, _, rfl, hd, RC.nil _ _ _, hV⟩
  have bZ : Below W.heap.size W (Y1.setRow (W.heap.size + 1) #[.int .i64 6, .int .i64 0, .int .i64 0, .int .i64 0, .int .i64 0, .int .i64 0, .string ⟨#[]⟩, .slice a1 n1 c1, .slice none 0 0]) := (kp_setRow Y1 (W.heap.size + 1) #[.int .i64 6, .int .i64 0, .int .i64 0, .int .i64 0, .int .i64 0, .int .i64 0, .string ⟨#[]⟩, .slice a1 n1 c1, .slice none 0 0]).below (kk1.below hbX (fun i e => by omega)) (fun i e => by omega)
  have bZd : Below W.heap.size W (Y1.drew.setRow (W.heap.size + 1) #[.int .i64 6, .int .i64 0, .int .i64 0, .int .i64 0, .int .i64 0, .int .i64 0, .string ⟨#[]⟩, .slice a1 n1 c1, .slice none 0 0]) := (kp_setRow Y1.drew (W.heap.size + 1) #[.int .i64 6, .int .i64 0, .int .i64 0, .int .i64 0, .int .i64 0, .int .i64 0, .string ⟨#[]⟩, .slice a1 n1 c1, .slice none 0 0]).below ((kk1.below hbX (fun i e => by omega)).drew) (fun i e => by omega)
  have HG := hide (show Bq Y1 X1.heap.size 40 #[.int .i64 6, .int .i64 0, .int .i64 0, .int .i64 0, .int .i64 0, .int .i64 0, .string ⟨#[]⟩, .slice a1 n1 c1, .slice none 0 0] ∧ Bq Y1 (W.heap.size + 1) 40 zSt from ⟨z2, z1⟩)
  have HO := hide (show (#[.int .i64 6, .int .i64 0, .int .i64 0, .int .i64 0, .int .i64 0, .int .i64 0, .string ⟨#[]⟩, .slice a1 n1 c1, .slice none 0 0] : Array Value).all (·.oneCell') = true by simp [Value.oneCell'])
  have HZ := hide (And.intro (hz _ bZ) (hz _ bZd))
  clear q0 q1 q2 r0 r1 hb1 hs1 hbX0 z1 z2 hz bZ bZd hbX hd hb hbl kk0 kk1 p0
  have HX := hide hX
  clear hX
  go_enter Tryz.func21, Tryz.ntmps21
  go_upto_region 2 with fail
  rw [unhide HX]
  go_wp2_with (first | refine wpl_loadS rfl _ rfl rfl (unhide HG).1 rfl ?_ | refine wpl_storeS (cs := #[.int .i64 6, .int .i64 0, .int .i64 0, .int .i64 0, .int .i64 0, .int .i64 0, .string ⟨#[]⟩, .slice a1 n1 c1, .slice none 0 0]) rfl _ _ rfl rfl rfl (unhide HG).2 rfl rfl (unhide HO) ?_)
  refine bodyPost_ret (results_cell_row rfl _ _ (W.heap.size + 1) _ #[.int .i64 6, .int .i64 0, .int .i64 0, .int .i64 0, .int .i64 0, .int .i64 0, .string ⟨#[]⟩, .slice a1 n1 c1, .slice none 0 0] _ _ rfl (setRow_heap _ _ _ #[.int .i64 6, .int .i64 0, .int .i64 0, .int .i64 0, .int .i64 0, .int .i64 0, .string ⟨#[]⟩, .slice a1 n1 c1, .slice none 0 0] _ _ (unhide HG).2) Tryz.underlying40 rfl sizeSt) rfl ?_
  first | exact (unhide HZ).1 | exact (unhide HZ).2

set_option maxRecDepth 100000 in
set_option maxHeartbeats 4000000 in
theorem bare7 {W0 W : World} (s : Sp) (a1 : Option Addr) (n1 c1 : Nat) (a2 : Option Addr) (n2 c2 : Nat) (hd : RNm W0 (.slice a1 n1 c1) s.draws) (hb : RBy W0 (.slice a2 n2 c2) s.data) (hk : s.kind = 7) :
    Calls Tryz.prog 21 #[.agg (spC s (.slice a1 n1 c1) (.slice a2 n2 c2))] W (BrA W0 W s) := by
  have hbl : bareL s = ⟨7, 0, 0, 0, 0, s.n, ⟨#[]⟩, [], []⟩ := by
    obtain ⟨k, q1, q2, q3, q4, q5, q6, q7, q8⟩ := s
    simp only at hk
    subst hk
    rfl
  obtain ⟨X1, hX1⟩ : ∃ X, (W.alloc (.cells (spC s (.slice a1 n1 c1) (.slice a2 n2 c2)) 40)).alloc (.cells zSt 40) = X := ⟨_, rfl⟩
  have hb1 : Below W.heap.size W X1 := by rw [← hX1]; exact ballc (ballc (Below.refl _ _) _) _
  have hs1 : X1.heap.size = W.heap.size + 2 := by rw [← hX1]; simp
  have r0 : Bq X1 W.heap.size 40 (spC s (.slice a1 n1 c1) (.slice a2 n2 c2)) := by rw [← hX1]; exact (Bq.new W _ _).keep (ballc (Below.refl _ _) _) (Bq.new W _ _).lt
  have r1 : Bq X1 (W.heap.size + 1) 40 zSt := by
    have h := Bq.new (W.alloc (.cells (spC s (.slice a1 n1 c1) (.slice a2 n2 c2)) 40)) 40 zSt
    rw [World.size_alloc] at h
    rw [← hX1]
    exact h
  obtain ⟨X, hX⟩ : ∃ X, X1.alloc (.cells (spC (sp0 7) (.slice none 0 0) (.slice none 0 0)) 40) = X := ⟨_, rfl⟩
  have hbX0 : Below X1.heap.size X1 X := by rw [← hX]; exact ballc (Below.refl _ _) _
  have hbX : Below W.heap.size W X := bnext hb1 hbX0
  have q0 : Bq X W.heap.size 40 (spC s (.slice a1 n1 c1) (.slice a2 n2 c2)) := r0.keep hbX0 r0.lt
  have q1 : Bq X (W.heap.size + 1) 40 zSt := r1.keep hbX0 r1.lt
  have q2 : Bq X X1.heap.size 40 (spC (sp0 7) (.slice none 0 0) (.slice none 0 0)) := by rw [← hX]; exact Bq.new _ _ _
  have k00 := r0.cell 0 (.int .i64 s.kind) rfl
  rw [hk] at k00
  unfold spC sp0 at hX
  unfold spC zSt at hX1
  rw [hk] at hX1
  unfold spC
  rw [hk]
  have k0 := q0.cell 0 (.int .i64 s.kind) rfl
  rw [hk] at k0
  have s5 := q0.cell 5 (.int .i64 s.n) rfl
  have kk0 : Kp (fun i => i = X1.heap.size) X X := Kp.refl _ _
  have o0 := q2.cell 5 (.int .i64 0) rfl
  have f0 := q2.frozen 5
  have l0 := q2.lt
  obtain ⟨Y1, hY1⟩ : ∃ Y, X.setCell ⟨X1.heap.size, 5, none⟩ (.int .i64 s.n) = Y := ⟨_, rfl⟩
  have p0 := q2.sets 5 (.int .i64 s.n)
  rw [hY1] at p0
  have kk1 := kk0.trans (Kp.set (N := fun i => i = X1.heap.size) X ⟨X1.heap.size, 5, none⟩ (.int .i64 s.n) rfl) (fun i hi => .inl hi)
  rw [hY1] at kk1
  have sy1_5 := (q0.kp kk1 (by omega)).cell 5 (.int .i64 s.n) rfl
  have z2 : Bq Y1 X1.heap.size 40 #[.int .i64 7, .int .i64 0, .int .i64 0, .int .i64 0, .int .i64 0, .int .i64 s.n, .string ⟨#[]⟩, .slice none 0 0, .slice none 0 0] := p0
  have z1 : Bq Y1 (W.heap.size + 1) 40 zSt := q1.kp kk1 (by omega)
  have hz : ∀ V, Below W.heap.size W V → BrA W0 W s (.returned (.agg #[.int .i64 7, .int .i64 0, .int .i64 0, .int .i64 0, .int .i64 0, .int .i64 s.n, .string ⟨#[]⟩, .slice none 0 0, .slice none 0 0])) V := fun V hV => by
    unfold BrA
    rw [hbl]
    exact ⟨_, _, _, _, _, _, rfl, RC.nil _ _ _, RC.nil _ _ _, hV⟩
  have bZ : Below W.heap.size W (Y1.setRow (W.heap.size + 1) #[.int .i64 7, .int .i64 0, .int .i64 0, .int .i64 0, .int .i64 0, .int .i64 s.n, .string ⟨#[]⟩, .slice none 0 0, .slice none 0 0]) := (kp_setRow Y1 (W.heap.size + 1) #[.int .i64 7, .int .i64 0, .int .i64 0, .int .i64 0, .int .i64 0, .int .i64 s.n, .string ⟨#[]⟩, .slice none 0 0, .slice none 0 0]).below (kk1.below hbX (fun i e => by omega)) (fun i e => by omega)
  have bZd : Below W.heap.size W (Y1.drew.setRow (W.heap.size + 1) #[.int .i64 7, .int .i64 0, .int .i64 0, .int .i64 0, .int .i64 0, .int .i64 s.n, .string ⟨#[]⟩, .slice none 0 0, .slice none 0 0]) := (kp_setRow Y1.drew (W.heap.size + 1) #[.int .i64 7, .int .i64 0, .int .i64 0, .int .i64 0, .int .i64 0, .int .i64 s.n, .string ⟨#[]⟩, .slice none 0 0, .slice none 0 0]).below ((kk1.below hbX (fun i e => by omega)).drew) (fun i e => by omega)
  have HG := hide (show Bq Y1 X1.heap.size 40 #[.int .i64 7, .int .i64 0, .int .i64 0, .int .i64 0, .int .i64 0, .int .i64 s.n, .string ⟨#[]⟩, .slice none 0 0, .slice none 0 0] ∧ Bq Y1 (W.heap.size + 1) 40 zSt from ⟨z2, z1⟩)
  have HO := hide (show (#[.int .i64 7, .int .i64 0, .int .i64 0, .int .i64 0, .int .i64 0, .int .i64 s.n, .string ⟨#[]⟩, .slice none 0 0, .slice none 0 0] : Array Value).all (·.oneCell') = true by simp [Value.oneCell'])
  have HZ := hide (And.intro (hz _ bZ) (hz _ bZd))
  clear q0 q1 q2 r0 r1 hb1 hs1 hbX0 z1 z2 hz bZ bZd hbX hd hb hbl kk0 kk1 p0
  have HX := hide hX
  clear hX
  go_enter Tryz.func21, Tryz.ntmps21
  go_upto_region 2 with fail
  rw [unhide HX]
  go_wp2_with (first | refine wpl_loadS rfl _ rfl rfl (unhide HG).1 rfl ?_ | refine wpl_storeS (cs := #[.int .i64 7, .int .i64 0, .int .i64 0, .int .i64 0, .int .i64 0, .int .i64 s.n, .string ⟨#[]⟩, .slice none 0 0, .slice none 0 0]) rfl _ _ rfl rfl rfl (unhide HG).2 rfl rfl (unhide HO) ?_)
  refine bodyPost_ret (results_cell_row rfl _ _ (W.heap.size + 1) _ #[.int .i64 7, .int .i64 0, .int .i64 0, .int .i64 0, .int .i64 0, .int .i64 s.n, .string ⟨#[]⟩, .slice none 0 0, .slice none 0 0] _ _ rfl (setRow_heap _ _ _ #[.int .i64 7, .int .i64 0, .int .i64 0, .int .i64 0, .int .i64 0, .int .i64 s.n, .string ⟨#[]⟩, .slice none 0 0, .slice none 0 0] _ _ (unhide HG).2) Tryz.underlying40 rfl sizeSt) rfl ?_
  first | exact (unhide HZ).1 | exact (unhide HZ).2

set_option maxRecDepth 100000 in
set_option maxHeartbeats 4000000 in
theorem bare8 {W0 W : World} (s : Sp) (a1 : Option Addr) (n1 c1 : Nat) (a2 : Option Addr) (n2 c2 : Nat) (hd : RNm W0 (.slice a1 n1 c1) s.draws) (hb : RBy W0 (.slice a2 n2 c2) s.data) (hk : s.kind = 8) :
    Calls Tryz.prog 21 #[.agg (spC s (.slice a1 n1 c1) (.slice a2 n2 c2))] W (BrA W0 W s) := by
  have hbl : bareL s = ⟨8, 0, 0, 0, 0, s.n, ⟨#[]⟩, [], []⟩ := by
    obtain ⟨k, q1, q2, q3, q4, q5, q6, q7, q8⟩ := s
    simp only at hk
    subst hk
    rfl
  obtain ⟨X1, hX1⟩ : ∃ X, (W.alloc (.cells (spC s (.slice a1 n1 c1) (.slice a2 n2 c2)) 40)).alloc (.cells zSt 40) = X := ⟨_, rfl⟩
  have hb1 : Below W.heap.size W X1 := by rw [← hX1]; exact ballc (ballc (Below.refl _ _) _) _
  have hs1 : X1.heap.size = W.heap.size + 2 := by rw [← hX1]; simp
  have r0 : Bq X1 W.heap.size 40 (spC s (.slice a1 n1 c1) (.slice a2 n2 c2)) := by rw [← hX1]; exact (Bq.new W _ _).keep (ballc (Below.refl _ _) _) (Bq.new W _ _).lt
  have r1 : Bq X1 (W.heap.size + 1) 40 zSt := by
    have h := Bq.new (W.alloc (.cells (spC s (.slice a1 n1 c1) (.slice a2 n2 c2)) 40)) 40 zSt
    rw [World.size_alloc] at h
    rw [← hX1]
    exact h
  obtain ⟨X, hX⟩ : ∃ X, X1.alloc (.cells (spC (sp0 8) (.slice none 0 0) (.slice none 0 0)) 40) = X := ⟨_, rfl⟩
  have hbX0 : Below X1.heap.size X1 X := by rw [← hX]; exact ballc (Below.refl _ _) _
  have hbX : Below W.heap.size W X := bnext hb1 hbX0
  have q0 : Bq X W.heap.size 40 (spC s (.slice a1 n1 c1) (.slice a2 n2 c2)) := r0.keep hbX0 r0.lt
  have q1 : Bq X (W.heap.size + 1) 40 zSt := r1.keep hbX0 r1.lt
  have q2 : Bq X X1.heap.size 40 (spC (sp0 8) (.slice none 0 0) (.slice none 0 0)) := by rw [← hX]; exact Bq.new _ _ _
  have k00 := r0.cell 0 (.int .i64 s.kind) rfl
  rw [hk] at k00
  unfold spC sp0 at hX
  unfold spC zSt at hX1
  rw [hk] at hX1
  unfold spC
  rw [hk]
  have k0 := q0.cell 0 (.int .i64 s.kind) rfl
  rw [hk] at k0
  have s5 := q0.cell 5 (.int .i64 s.n) rfl
  have kk0 : Kp (fun i => i = X1.heap.size) X X := Kp.refl _ _
  have o0 := q2.cell 5 (.int .i64 0) rfl
  have f0 := q2.frozen 5
  have l0 := q2.lt
  obtain ⟨Y1, hY1⟩ : ∃ Y, X.setCell ⟨X1.heap.size, 5, none⟩ (.int .i64 s.n) = Y := ⟨_, rfl⟩
  have p0 := q2.sets 5 (.int .i64 s.n)
  rw [hY1] at p0
  have kk1 := kk0.trans (Kp.set (N := fun i => i = X1.heap.size) X ⟨X1.heap.size, 5, none⟩ (.int .i64 s.n) rfl) (fun i hi => .inl hi)
  rw [hY1] at kk1
  have sy1_5 := (q0.kp kk1 (by omega)).cell 5 (.int .i64 s.n) rfl
  have z2 : Bq Y1 X1.heap.size 40 #[.int .i64 8, .int .i64 0, .int .i64 0, .int .i64 0, .int .i64 0, .int .i64 s.n, .string ⟨#[]⟩, .slice none 0 0, .slice none 0 0] := p0
  have z1 : Bq Y1 (W.heap.size + 1) 40 zSt := q1.kp kk1 (by omega)
  have hz : ∀ V, Below W.heap.size W V → BrA W0 W s (.returned (.agg #[.int .i64 8, .int .i64 0, .int .i64 0, .int .i64 0, .int .i64 0, .int .i64 s.n, .string ⟨#[]⟩, .slice none 0 0, .slice none 0 0])) V := fun V hV => by
    unfold BrA
    rw [hbl]
    exact ⟨_, _, _, _, _, _, rfl, RC.nil _ _ _, RC.nil _ _ _, hV⟩
  have bZ : Below W.heap.size W (Y1.setRow (W.heap.size + 1) #[.int .i64 8, .int .i64 0, .int .i64 0, .int .i64 0, .int .i64 0, .int .i64 s.n, .string ⟨#[]⟩, .slice none 0 0, .slice none 0 0]) := (kp_setRow Y1 (W.heap.size + 1) #[.int .i64 8, .int .i64 0, .int .i64 0, .int .i64 0, .int .i64 0, .int .i64 s.n, .string ⟨#[]⟩, .slice none 0 0, .slice none 0 0]).below (kk1.below hbX (fun i e => by omega)) (fun i e => by omega)
  have bZd : Below W.heap.size W (Y1.drew.setRow (W.heap.size + 1) #[.int .i64 8, .int .i64 0, .int .i64 0, .int .i64 0, .int .i64 0, .int .i64 s.n, .string ⟨#[]⟩, .slice none 0 0, .slice none 0 0]) := (kp_setRow Y1.drew (W.heap.size + 1) #[.int .i64 8, .int .i64 0, .int .i64 0, .int .i64 0, .int .i64 0, .int .i64 s.n, .string ⟨#[]⟩, .slice none 0 0, .slice none 0 0]).below ((kk1.below hbX (fun i e => by omega)).drew) (fun i e => by omega)
  have HG := hide (show Bq Y1 X1.heap.size 40 #[.int .i64 8, .int .i64 0, .int .i64 0, .int .i64 0, .int .i64 0, .int .i64 s.n, .string ⟨#[]⟩, .slice none 0 0, .slice none 0 0] ∧ Bq Y1 (W.heap.size + 1) 40 zSt from ⟨z2, z1⟩)
  have HO := hide (show (#[.int .i64 8, .int .i64 0, .int .i64 0, .int .i64 0, .int .i64 0, .int .i64 s.n, .string ⟨#[]⟩, .slice none 0 0, .slice none 0 0] : Array Value).all (·.oneCell') = true by simp [Value.oneCell'])
  have HZ := hide (And.intro (hz _ bZ) (hz _ bZd))
  clear q0 q1 q2 r0 r1 hb1 hs1 hbX0 z1 z2 hz bZ bZd hbX hd hb hbl kk0 kk1 p0
  have HX := hide hX
  clear hX
  go_enter Tryz.func21, Tryz.ntmps21
  go_upto_region 2 with fail
  rw [unhide HX]
  go_wp2_with (first | refine wpl_loadS rfl _ rfl rfl (unhide HG).1 rfl ?_ | refine wpl_storeS (cs := #[.int .i64 8, .int .i64 0, .int .i64 0, .int .i64 0, .int .i64 0, .int .i64 s.n, .string ⟨#[]⟩, .slice none 0 0, .slice none 0 0]) rfl _ _ rfl rfl rfl (unhide HG).2 rfl rfl (unhide HO) ?_)
  refine bodyPost_ret (results_cell_row rfl _ _ (W.heap.size + 1) _ #[.int .i64 8, .int .i64 0, .int .i64 0, .int .i64 0, .int .i64 0, .int .i64 s.n, .string ⟨#[]⟩, .slice none 0 0, .slice none 0 0] _ _ rfl (setRow_heap _ _ _ #[.int .i64 8, .int .i64 0, .int .i64 0, .int .i64 0, .int .i64 0, .int .i64 s.n, .string ⟨#[]⟩, .slice none 0 0, .slice none 0 0] _ _ (unhide HG).2) Tryz.underlying40 rfl sizeSt) rfl ?_
  first | exact (unhide HZ).1 | exact (unhide HZ).2

set_option maxRecDepth 100000 in
set_option maxHeartbeats 4000000 in
theorem bare9 {W0 W : World} (s : Sp) (a1 : Option Addr) (n1 c1 : Nat) (a2 : Option Addr) (n2 c2 : Nat) (hd : RNm W0 (.slice a1 n1 c1) s.draws) (hb : RBy W0 (.slice a2 n2 c2) s.data) (hk : s.kind = 9) :
    Calls Tryz.prog 21 #[.agg (spC s (.slice a1 n1 c1) (.slice a2 n2 c2))] W (BrA W0 W s) := by
  have hbl : bareL s = ⟨9, 0, 0, 0, 0, s.n, ⟨#[]⟩, [], []⟩ := by
    obtain ⟨k, q1, q2, q3, q4, q5, q6, q7, q8⟩ := s
    simp only at hk
    subst hk
    rfl
  obtain ⟨X1, hX1⟩ : ∃ X, (W.alloc (.cells (spC s (.slice a1 n1 c1) (.slice a2 n2 c2)) 40)).alloc (.cells zSt 40) = X := ⟨_, rfl⟩
  have hb1 : Below W.heap.size W X1 := by rw [← hX1]; exact ballc (ballc (Below.refl _ _) _) _
  have hs1 : X1.heap.size = W.heap.size + 2 := by rw [← hX1]; simp
  have r0 : Bq X1 W.heap.size 40 (spC s (.slice a1 n1 c1) (.slice a2 n2 c2)) := by rw [← hX1]; exact (Bq.new W _ _).keep (ballc (Below.refl _ _) _) (Bq.new W _ _).lt
  have r1 : Bq X1 (W.heap.size + 1) 40 zSt := by
    have h := Bq.new (W.alloc (.cells (spC s (.slice a1 n1 c1) (.slice a2 n2 c2)) 40)) 40 zSt
    rw [World.size_alloc] at h
    rw [← hX1]
    exact h
  obtain ⟨X, hX⟩ : ∃ X, X1.alloc (.cells (spC (sp0 9) (.slice none 0 0) (.slice none 0 0)) 40) = X := ⟨_, rfl⟩
  have hbX0 : Below X1.heap.size X1 X := by rw [← hX]; exact ballc (Below.refl _ _) _
  have hbX : Below W.heap.size W X := bnext hb1 hbX0
  have q0 : Bq X W.heap.size 40 (spC s (.slice a1 n1 c1) (.slice a2 n2 c2)) := r0.keep hbX0 r0.lt
  have q1 : Bq X (W.heap.size + 1) 40 zSt := r1.keep hbX0 r1.lt
  have q2 : Bq X X1.heap.size 40 (spC (sp0 9) (.slice none 0 0) (.slice none 0 0)) := by rw [← hX]; exact Bq.new _ _ _
  have k00 := r0.cell 0 (.int .i64 s.kind) rfl
  rw [hk] at k00
  unfold spC sp0 at hX
  unfold spC zSt at hX1
  rw [hk] at hX1
  unfold spC
  rw [hk]
  have k0 := q0.cell 0 (.int .i64 s.kind) rfl
  rw [hk] at k0
  have s5 := q0.cell 5 (.int .i64 s.n) rfl
  have kk0 : Kp (fun i => i = X1.heap.size) X X := Kp.refl _ _
  have o0 := q2.cell 5 (.int .i64 0) rfl
  have f0 := q2.frozen 5
  have l0 := q2.lt
  obtain ⟨Y1, hY1⟩ : ∃ Y, X.setCell ⟨X1.heap.size, 5, none⟩ (.int .i64 s.n) = Y := ⟨_, rfl⟩
  have p0 := q2.sets 5 (.int .i64 s.n)
  rw [hY1] at p0
  have kk1 := kk0.trans (Kp.set (N := fun i => i = X1.heap.size) X ⟨X1.heap.size, 5, none⟩ (.int .i64 s.n) rfl) (fun i hi => .inl hi)
  rw [hY1] at kk1
  have sy1_5 := (q0.kp kk1 (by omega)).cell 5 (.int .i64 s.n) rfl
  have z2 : Bq Y1 X1.heap.size 40 #[.int .i64 9, .int .i64 0, .int .i64 0, .int .i64 0, .int .i64 0, .int .i64 s.n, .string ⟨#[]⟩, .slice none 0 0, .slice none 0 0] := p0
  have z1 : Bq Y1 (W.heap.size + 1) 40 zSt := q1.kp kk1 (by omega)
  have hz : ∀ V, Below W.heap.size W V → BrA W0 W s (.returned (.agg #[.int .i64 9, .int .i64 0, .int .i64 0, .int .i64 0, .int .i64 0, .int .i64 s.n, .string ⟨#[]⟩, .slice none 0 0, .slice none 0 0])) V := fun V hV => by
    unfold BrA
    rw [hbl]
    exact ⟨_, _, _, _, _, _, rfl, RC.nil _ _ _, RC.nil _ _ _, hV⟩
  have bZ : Below W.heap.size W (Y1.setRow (W.heap.size + 1) #[.int .i64 9, .int .i64 0, .int .i64 0, .int .i64 0, .int .i64 0, .int .i64 s.n, .string ⟨#[]⟩, .slice none 0 0, .slice none 0 0]) := (kp_setRow Y1 (W.heap.size + 1) #[.int .i64 9, .int .i64 0, .int .i64 0, .int .i64 0, .int .i64 0, .int .i64 s.n, .string ⟨#[]⟩, .slice none 0 0, .slice none 0 0]).below (kk1.below hbX (fun i e => by omega)) (fun i e => by omega)
  have bZd : Below W.heap.size W (Y1.drew.setRow (W.heap.size + 1) #[.int .i64 9, .int .i64 0, .int .i64 0, .int .i64 0, .int .i64 0, .int .i64 s.n, .string ⟨#[]⟩, .slice none 0 0, .slice none 0 0]) := (kp_setRow Y1.drew (W.heap.size + 1) #[.int .i64 9, .int .i64 0, .int .i64 0, .int .i64 0, .int .i64 0, .int .i64 s.n, .string ⟨#[]⟩, .slice none 0 0, .slice none 0 0]).below ((kk1.below hbX (fun i e => by omega)).drew) (fun i e => by omega)
  have HG := hide (show Bq Y1 X1.heap.size 40 #[.int .i64 9, .int .i64 0, .int .i64 0, .int .i64 0, .int .i64 0, .int .i64 s.n, .string ⟨#[]⟩, .slice none 0 0, .slice none 0 0] ∧ Bq Y1 (W.heap.size + 1) 40 zSt from ⟨z2, z1⟩)
  have HO := hide (show (#[.int .i64 9, .int .i64 0, .int .i64 0, .int .i64 0, .int .i64 0, .int .i64 s.n, .string ⟨#[]⟩, .slice none 0 0, .slice none 0 0] : Array Value).all (·.oneCell') = true by simp [Value.oneCell'])
  have HZ := hide (And.intro (hz _ bZ) (hz _ bZd))
  clear q0 q1 q2 r0 r1 hb1 hs1 hbX0 z1 z2 hz bZ bZd hbX hd hb hbl kk0 kk1 p0
  have HX := hide hX
  clear hX
  go_enter Tryz.func21, Tryz.ntmps21
  go_upto_region 2 with fail
  rw [unhide HX]
  go_wp2_with (first | refine wpl_loadS rfl _ rfl rfl (unhide HG).1 rfl ?_ | refine wpl_storeS (cs := #[.int .i64 9, .int .i64 0, .int .i64 0, .int .i64 0, .int .i64 0, .int .i64 s.n, .string ⟨#[]⟩, .slice none 0 0, .slice none 0 0]) rfl _ _ rfl rfl rfl (unhide HG).2 rfl rfl (unhide HO) ?_)
  refine bodyPost_ret (results_cell_row rfl _ _ (W.heap.size + 1) _ #[.int .i64 9, .int .i64 0, .int .i64 0, .int .i64 0, .int .i64 0, .int .i64 s.n, .string ⟨#[]⟩, .slice none 0 0, .slice none 0 0] _ _ rfl (setRow_heap _ _ _ #[.int .i64 9, .int .i64 0, .int .i64 0, .int .i64 0, .int .i64 0, .int .i64 s.n, .string ⟨#[]⟩, .slice none 0 0, .slice none 0 0] _ _ (unhide HG).2) Tryz.underlying40 rfl sizeSt) rfl ?_
  first | exact (unhide HZ).1 | exact (unhide HZ).2

set_option maxRecDepth 100000 in
set_option maxHeartbeats 4000000 in
theorem bare10 {W0 W : World} (s : Sp) (a1 : Option Addr) (n1 c1 : Nat) (a2 : Option Addr) (n2 c2 : Nat) (hd : RNm W0 (.slice a1 n1 c1) s.draws) (hb : RBy W0 (.slice a2 n2 c2) s.data) (hk : s.kind = 10) :
    Calls Tryz.prog 21 #[.agg (spC s (.slice a1 n1 c1) (.slice a2 n2 c2))] W (BrA W0 W s) := by
  have hbl : bareL s = ⟨10, 0, 0, 0, s.at_, s.n, ⟨#[]⟩, [], s.data⟩ := by
    obtain ⟨k, q1, q2, q3, q4, q5, q6, q7, q8⟩ := s
    simp only at hk
    subst hk
    rfl
  obtain ⟨X1, hX1⟩ : ∃ X, (W.alloc (.cells (spC s (.slice a1 n1 c1) (.slice a2 n2 c2)) 40)).alloc (.cells zSt 40) = X := ⟨_, rfl⟩
  have hb1 : Below W.heap.size W X1 := by rw [← hX1]; exact ballc (ballc (Below.refl _ _) _) _
  have hs1 : X1.heap.size = W.heap.size + 2 := by rw [← hX1]; simp
  have r0 : Bq X1 W.heap.size 40 (spC s (.slice a1 n1 c1) (.slice a2 n2 c2)) := by rw [← hX1]; exact (Bq.new W _ _).keep (ballc (Below.refl _ _) _) (Bq.new W _ _).lt
  have r1 : Bq X1 (W.heap.size + 1) 40 zSt := by
    have h := Bq.new (W.alloc (.cells (spC s (.slice a1 n1 c1) (.slice a2 n2 c2)) 40)) 40 zSt
    rw [World.size_alloc] at h
    rw [← hX1]
    exact h
  obtain ⟨X, hX⟩ : ∃ X, X1.alloc (.cells (spC (sp0 10) (.slice none 0 0) (.slice none 0 0)) 40) = X := ⟨_, rfl⟩
  have hbX0 : Below X1.heap.size X1 X := by rw [← hX]; exact ballc (Below.refl _ _) _
  have hbX : Below W.heap.size W X := bnext hb1 hbX0
  have q0 : Bq X W.heap.size 40 (spC s (.slice a1 n1 c1) (.slice a2 n2 c2)) := r0.keep hbX0 r0.lt
  have q1 : Bq X (W.heap.size + 1) 40 zSt := r1.keep hbX0 r1.lt
  have q2 : Bq X X1.heap.size 40 (spC (sp0 10) (.slice none 0 0) (.slice none 0 0)) := by rw [← hX]; exact Bq.new _ _ _
  have k00 := r0.cell 0 (.int .i64 s.kind) rfl
  rw [hk] at k00
  unfold spC sp0 at hX
  unfold spC zSt at hX1
  rw [hk] at hX1
  unfold spC
  rw [hk]
  have k0 := q0.cell 0 (.int .i64 s.kind) rfl
  rw [hk] at k0
  have s5 := q0.cell 5 (.int .i64 s.n) rfl
  have s4 := q0.cell 4 (.int .i64 s.at_) rfl
  have s8 := q0.cell 8 (.slice a2 n2 c2) rfl
  have kk0 : Kp (fun i => i = X1.heap.size) X X := Kp.refl _ _
  have o0 := q2.cell 5 (.int .i64 0) rfl
  have f0 := q2.frozen 5
  have l0 := q2.lt
  obtain ⟨Y1, hY1⟩ : ∃ Y, X.setCell ⟨X1.heap.size, 5, none⟩ (.int .i64 s.n) = Y := ⟨_, rfl⟩
  have p0 := q2.sets 5 (.int .i64 s.n)
  rw [hY1] at p0
  have kk1 := kk0.trans (Kp.set (N := fun i => i = X1.heap.size) X ⟨X1.heap.size, 5, none⟩ (.int .i64 s.n) rfl) (fun i hi => .inl hi)
  rw [hY1] at kk1
  have sy1_5 := (q0.kp kk1 (by omega)).cell 5 (.int .i64 s.n) rfl
  have sy1_4 := (q0.kp kk1 (by omega)).cell 4 (.int .i64 s.at_) rfl
  have sy1_8 := (q0.kp kk1 (by omega)).cell 8 (.slice a2 n2 c2) rfl
  have o1 := p0.cell 4 (.int .i64 0) rfl
  have f1 := p0.frozen 4
  have l1 := p0.lt
  obtain ⟨Y2, hY2⟩ : ∃ Y, Y1.setCell ⟨X1.heap.size, 4, none⟩ (.int .i64 s.at_) = Y := ⟨_, rfl⟩
  have p1 := p0.sets 4 (.int .i64 s.at_)
  rw [hY2] at p1
  have kk2 := kk1.trans (Kp.set (N := fun i => i = X1.heap.size) Y1 ⟨X1.heap.size, 4, none⟩ (.int .i64 s.at_) rfl) (fun i hi => .inl hi)
  rw [hY2] at kk2
  have sy2_5 := (q0.kp kk2 (by omega)).cell 5 (.int .i64 s.n) rfl
  have sy2_4 := (q0.kp kk2 (by omega)).cell 4 (.int .i64 s.at_) rfl
  have sy2_8 := (q0.kp kk2 (by omega)).cell 8 (.slice a2 n2 c2) rfl
  have o2 := p1.cell 8 (.slice none 0 0) rfl
  have f2 := p1.frozen 8
  have l2 := p1.lt
  obtain ⟨Y3, hY3⟩ : ∃ Y, Y2.setCell ⟨X1.heap.size, 8, none⟩ (.slice a2 n2 c2) = Y := ⟨_, rfl⟩
  have p2 := p1.sets 8 (.slice a2 n2 c2)
  rw [hY3] at p2
  have kk3 := kk2.trans (Kp.set (N := fun i => i = X1.heap.size) Y2 ⟨X1.heap.size, 8, none⟩ (.slice a2 n2 c2) rfl) (fun i hi => .inl hi)
  rw [hY3] at kk3
  have sy3_5 := (q0.kp kk3 (by omega)).cell 5 (.int .i64 s.n) rfl
  have sy3_4 := (q0.kp kk3 (by omega)).cell 4 (.int .i64 s.at_) rfl
  have sy3_8 := (q0.kp kk3 (by omega)).cell 8 (.slice a2 n2 c2) rfl
  have z2 : Bq Y3 X1.heap.size 40 #[.int .i64 10, .int .i64 0, .int .i64 0, .int .i64 0, .int .i64 s.at_, .int .i64 s.n, .string ⟨#[]⟩, .slice none 0 0, .slice a2 n2 c2] := p2
  have z1 : Bq Y3 (W.heap.size + 1) 40 zSt := q1.kp kk3 (by omega)
  have hz : ∀ V, Below W.heap.size W V → BrA W0 W s (.returned (.agg #[.int .i64 10, .int .i64 0, .int .i64 0, .int .i64 0, .int .i64 s.at_, .int .i64 s.n, .string ⟨#[]⟩, .slice none 0 0, .slice a2 n2 c2])) V := fun V hV => by
    unfold BrA
    rw [hbl]
    exact ⟨_, _, _, _, _, _, rfl, RC.nil _ _ _, hb, hV⟩
  have bZ : Below W.heap.size W (Y3.setRow (W.heap.size + 1) #[.int .i64 10, .int .i64 0, .int .i64 0, .int .i64 0, .int .i64 s.at_, .int .i64 s.n, .string ⟨#[]⟩, .slice none 0 0, .slice a2 n2 c2]) := (kp_setRow Y3 (W.heap.size + 1) #[.int .i64 10, .int .i64 0, .int .i64 0, .int .i64 0, .int .i64 s.at_, .int .i64 s.n, .string ⟨#[]⟩, .slice none 0 0, .slice a2 n2 c2]).below (kk3.below hbX (fun i e => by omega)) (fun i e => by omega)
  have bZd : Below W.heap.size W (Y3.drew.setRow (W.heap.size + 1) #[.int .i64 10, .int .i64 0, .int .i64 0, .int .i64 0, .int .i64 s.at_, .int .i64 s.n, .string ⟨#[]⟩, .slice none 0 0, .slice a2 n2 c2]) := (kp_setRow Y3.drew (W.heap.size + 1) #[.int .i64 10, .int .i64 0, .int .i64 0, .int .i64 0, .int .i64 s.at_, .int .i64 s.n, .string ⟨#[]⟩, .slice none 0 0, .slice a2 n2 c2]).below ((kk3.below hbX (fun i e => by omega)).drew) (fun i e => by omega)
  have HG := hide (show Bq Y3 X1.heap.size 40 #[.int .i64 10, .int .i64 0, .int .i64 0, .int .i64 0, .int .i64 s.at_, .int .i64 s.n, .string ⟨#[]⟩, .slice none 0 0, .slice a2 n2 c2] ∧ Bq Y3 (W.heap.size + 1) 40 zSt from ⟨z2, z1⟩)
  have HO := hide (show (#[.int .i64 10, .int .i64 0, .int .i64 0, .int .i64 0, .int .i64 s.at_, .int .i64 s.n, .string ⟨#[]⟩, .slice none 0 0, .slice a2 n2 c2] : Array Value).all (·.oneCell') = true by simp [Value.oneCell'])
  have HZ := hide (And.intro (hz _ bZ) (hz _ bZd))
  clear q0 q1 q2 r0 r1 hb1 hs1 hbX0 z1 z2 hz bZ bZd hbX hd hb hbl kk0 kk1 kk2 kk3 p0 p1 p2
  have HX := hide hX
  clear hX
  go_enter Tryz.func21, Tryz.ntmps21
  go_upto_region 2 with fail
  rw [unhide HX]
  go_upto_region 21 with fail
  go_region
  go_wp2_with (first | refine wpl_loadS rfl _ rfl rfl (unhide HG).1 rfl ?_ | refine wpl_storeS (cs := #[.int .i64 10, .int .i64 0, .int .i64 0, .int .i64 0, .int .i64 s.at_, .int .i64 s.n, .string ⟨#[]⟩, .slice none 0 0, .slice a2 n2 c2]) rfl _ _ rfl rfl rfl (unhide HG).2 rfl rfl (unhide HO) ?_)
  refine bodyPost_ret (results_cell_row rfl _ _ (W.heap.size + 1) _ #[.int .i64 10, .int .i64 0, .int .i64 0, .int .i64 0, .int .i64 s.at_, .int .i64 s.n, .string ⟨#[]⟩, .slice none 0 0, .slice a2 n2 c2] _ _ rfl (setRow_heap _ _ _ #[.int .i64 10, .int .i64 0, .int .i64 0, .int .i64 0, .int .i64 s.at_, .int .i64 s.n, .string ⟨#[]⟩, .slice none 0 0, .slice a2 n2 c2] _ _ (unhide HG).2) Tryz.underlying40 rfl sizeSt) rfl ?_
  first | exact (unhide HZ).1 | exact (unhide HZ).2

set_option maxRecDepth 100000 in
set_option maxHeartbeats 4000000 in
theorem bare11 {W0 W : World} (s : Sp) (a1 : Option Addr) (n1 c1 : Nat) (a2 : Option Addr) (n2 c2 : Nat) (hd : RNm W0 (.slice a1 n1 c1) s.draws) (hb : RBy W0 (.slice a2 n2 c2) s.data) (hk : s.kind = 11) :
    Calls Tryz.prog 21 #[.agg (spC s (.slice a1 n1 c1) (.slice a2 n2 c2))] W (BrA W0 W s) := by
  have hbl : bareL s = ⟨11, 0, 0, 0, s.at_, s.n, ⟨#[]⟩, [], []⟩ := by
    obtain ⟨k, q1, q2, q3, q4, q5, q6, q7, q8⟩ := s
    simp only at hk
    subst hk
    rfl
  obtain ⟨X1, hX1⟩ : ∃ X, (W.alloc (.cells (spC s (.slice a1 n1 c1) (.slice a2 n2 c2)) 40)).alloc (.cells zSt 40) = X := ⟨_, rfl⟩
  have hb1 : Below W.heap.size W X1 := by rw [← hX1]; exact ballc (ballc (Below.refl _ _) _) _
  have hs1 : X1.heap.size = W.heap.size + 2 := by rw [← hX1]; simp
  have r0 : Bq X1 W.heap.size 40 (spC s (.slice a1 n1 c1) (.slice a2 n2 c2)) := by rw [← hX1]; exact (Bq.new W _ _).keep (ballc (Below.refl _ _) _) (Bq.new W _ _).lt
  have r1 : Bq X1 (W.heap.size + 1) 40 zSt := by
    have h := Bq.new (W.alloc (.cells (spC s (.slice a1 n1 c1) (.slice a2 n2 c2)) 40)) 40 zSt
    rw [World.size_alloc] at h
    rw [← hX1]
    exact h
  obtain ⟨X, hX⟩ : ∃ X, X1.alloc (.cells (spC (sp0 11) (.slice none 0 0) (.slice none 0 0)) 40) = X := ⟨_, rfl⟩
  have hbX0 : Below X1.heap.size X1 X := by rw [← hX]; exact ballc (Below.refl _ _) _
  have hbX : Below W.heap.size W X := bnext hb1 hbX0
  have q0 : Bq X W.heap.size 40 (spC s (.slice a1 n1 c1) (.slice a2 n2 c2)) := r0.keep hbX0 r0.lt
  have q1 : Bq X (W.heap.size + 1) 40 zSt := r1.keep hbX0 r1.lt
  have q2 : Bq X X1.heap.size 40 (spC (sp0 11) (.slice none 0 0) (.slice none 0 0)) := by rw [← hX]; exact Bq.new _ _ _
  have k00 := r0.cell 0 (.int .i64 s.kind) rfl
  rw [hk] at k00
  unfold spC sp0 at hX
  unfold spC zSt at hX1
  rw [hk] at hX1
  unfold spC
  rw [hk]
  have k0 := q0.cell 0 (.int .i64 s.kind) rfl
  rw [hk] at k0
  have s5 := q0.cell 5 (.int .i64 s.n) rfl
  have s4 := q0.cell 4 (.int .i64 s.at_) rfl
  have kk0 : Kp (fun i => i = X1.heap.size) X X := Kp.refl _ _
  have o0 := q2.cell 5 (.int .i64 0) rfl
  have f0 := q2.frozen 5
  have l0 := q2.lt
  obtain ⟨Y1, hY1⟩ : ∃ Y, X.setCell ⟨X1.heap.size, 5, none⟩ (.int .i64 s.n) = Y := ⟨_, rfl⟩
  have p0 := q2.sets 5 (.int .i64 s.n)
  rw [hY1] at p0
  have kk1 := kk0.trans (Kp.set (N := fun i => i = X1.heap.size) X ⟨X1.heap.size, 5, none⟩ (.int .i64 s.n) rfl) (fun i hi => .inl hi)
  rw [hY1] at kk1
  have sy1_5 := (q0.kp kk1 (by omega)).cell 5 (.int .i64 s.n) rfl
  have sy1_4 := (q0.kp kk1 (by omega)).cell 4 (.int .i64 s.at_) rfl
  have o1 := p0.cell 4 (.int .i64 0) rfl
  have f1 := p0.frozen 4
  have l1 := p0.lt
  obtain ⟨Y2, hY2⟩ : ∃ Y, Y1.setCell ⟨X1.heap.size, 4, none⟩ (.int .i64 s.at_) = Y := ⟨_, rfl⟩
  have p1 := p0.sets 4 (.int .i64 s.at_)
  rw [hY2] at p1
  have kk2 := kk1.trans (Kp.set (N := fun i => i = X1.heap.size) Y1 ⟨X1.heap.size, 4, none⟩ (.int .i64 s.at_) rfl) (fun i hi => .inl hi)
  rw [hY2] at kk2
  have sy2_5 := (q0.kp kk2 (by omega)).cell 5 (.int .i64 s.n) rfl
  have sy2_4 := (q0.kp kk2 (by omega)).cell 4 (.int .i64 s.at_) rfl
  have z2 : Bq Y2 X1.heap.size 40 #[.int .i64 11, .int .i64 0, .int .i64 0, .int .i64 0, .int .i64 s.at_, .int .i64 s.n, .string ⟨#[]⟩, .slice none 0 0, .slice none 0 0] := p1
  have z1 : Bq Y2 (W.heap.size + 1) 40 zSt := q1.kp kk2 (by omega)
  have hz : ∀ V, Below W.heap.size W V → BrA W0 W s (.returned (.agg #[.int .i64 11, .int .i64 0, .int .i64 0, .int .i64 0, .int .i64 s.at_, .int .i64 s.n, .string ⟨#[]⟩, .slice none 0 0, .slice none 0 0])) V := fun V hV => by
    unfold BrA
    rw [hbl]
    exact ⟨_, _, _, _, _, _, rfl, RC.nil _ _ _, RC.nil _ _ _, hV⟩
  have bZ : Below W.heap.size W (Y2.setRow (W.heap.size + 1) #[.int .i64 11, .int .i64 0, .int .i64 0, .int .i64 0, .int .i64 s.at_, .int .i64 s.n, .string ⟨#[]⟩, .slice none 0 0, .slice none 0 0]) := (kp_setRow Y2 (W.heap.size + 1) #[.int .i64 11, .int .i64 0, .int .i64 0, .int .i64 0, .int .i64 s.at_, .int .i64 s.n, .string ⟨#[]⟩, .slice none 0 0, .slice none 0 0]).below (kk2.below hbX (fun i e => by omega)) (fun i e => by omega)
  have bZd : Below W.heap.size W (Y2.drew.setRow (W.heap.size + 1) #[.int .i64 11, .int .i64 0, .int .i64 0, .int .i64 0, .int .i64 s.at_, .int .i64 s.n, .string ⟨#[]⟩, .slice none 0 0, .slice none 0 0]) := (kp_setRow Y2.drew (W.heap.size + 1) #[.int .i64 11, .int .i64 0, .int .i64 0, .int .i64 0, .int .i64 s.at_, .int .i64 s.n, .string ⟨#[]⟩, .slice none 0 0, .slice none 0 0]).below ((kk2.below hbX (fun i e => by omega)).drew) (fun i e => by omega)
  have HG := hide (show Bq Y2 X1.heap.size 40 #[.int .i64 11, .int .i64 0, .int .i64 0, .int .i64 0, .int .i64 s.at_, .int .i64 s.n, .string ⟨#[]⟩, .slice none 0 0, .slice none 0 0] ∧ Bq Y2 (W.heap.size + 1) 40 zSt from ⟨z2, z1⟩)
  have HO := hide (show (#[.int .i64 11, .int .i64 0, .int .i64 0, .int .i64 0, .int .i64 s.at_, .int .i64 s.n, .string ⟨#[]⟩, .slice none 0 0, .slice none 0 0] : Array Value).all (·.oneCell') = true by simp [Value.oneCell'])
  have HZ := hide (And.intro (hz _ bZ) (hz _ bZd))
  clear q0 q1 q2 r0 r1 hb1 hs1 hbX0 z1 z2 hz bZ bZd hbX hd hb hbl kk0 kk1 kk2 p0 p1
  have HX := hide hX
  clear hX
  go_enter Tryz.func21, Tryz.ntmps21
  go_upto_region 2 with fail
  rw [unhide HX]
  go_upto_region 23 with fail
  go_region
  go_wp2_with (first | refine wpl_loadS rfl _ rfl rfl (unhide HG).1 rfl ?_ | refine wpl_storeS (cs := #[.int .i64 11, .int .i64 0, .int .i64 0, .int .i64 0, .int .i64 s.at_, .int .i64 s.n, .string ⟨#[]⟩, .slice none 0 0, .slice none 0 0]) rfl _ _ rfl rfl rfl (unhide HG).2 rfl rfl (unhide HO) ?_)
  refine bodyPost_ret (results_cell_row rfl _ _ (W.heap.size + 1) _ #[.int .i64 11, .int .i64 0, .int .i64 0, .int .i64 0, .int .i64 s.at_, .int .i64 s.n, .string ⟨#[]⟩, .slice none 0 0, .slice none 0 0] _ _ rfl (setRow_heap _ _ _ #[.int .i64 11, .int .i64 0, .int .i64 0, .int .i64 0, .int .i64 s.at_, .int .i64 s.n, .string ⟨#[]⟩, .slice none 0 0, .slice none 0 0] _ _ (unhide HG).2) Tryz.underlying40 rfl sizeSt) rfl ?_
  first | exact (unhide HZ).1 | exact (unhide HZ).2

set_option maxRecDepth 100000 in
set_option maxHeartbeats 4000000 in
theorem bare12 {W0 W : World} (s : Sp) (a1 : Option Addr) (n1 c1 : Nat) (a2 : Option Addr) (n2 c2 : Nat) (hd : RNm W0 (.slice a1 n1 c1) s.draws) (hb : RBy W0 (.slice a2 n2 c2) s.data) (hk : s.kind = 12) :
    Calls Tryz.prog 21 #[.agg (spC s (.slice a1 n1 c1) (.slice a2 n2 c2))] W (BrA W0 W s) := by
  have hbl : bareL s = ⟨12, s.site, 0, 0, 0, 0, ⟨#[]⟩, [], []⟩ := by
    obtain ⟨k, q1, q2, q3, q4, q5, q6, q7, q8⟩ := s
    simp only at hk
    subst hk
    rfl
  obtain ⟨X1, hX1⟩ : ∃ X, (W.alloc (.cells (spC s (.slice a1 n1 c1) (.slice a2 n2 c2)) 40)).alloc (.cells zSt 40) = X := ⟨_, rfl⟩
  have hb1 : Below W.heap.size W X1 := by rw [← hX1]; exact ballc (ballc (Below.refl _ _) _) _
  have hs1 : X1.heap.size = W.heap.size + 2 := by rw [← hX1]; simp
  have r0 : Bq X1 W.heap.size 40 (spC s (.slice a1 n1 c1) (.slice a2 n2 c2)) := by rw [← hX1]; exact (Bq.new W _ _).keep (ballc (Below.refl _ _) _) (Bq.new W _ _).lt
  have r1 : Bq X1 (W.heap.size + 1) 40 zSt := by
    have h := Bq.new (W.alloc (.cells (spC s (.slice a1 n1 c1) (.slice a2 n2 c2)) 40)) 40 zSt
    rw [World.size_alloc] at h
    rw [← hX1]
    exact h
  obtain ⟨X, hX⟩ : ∃ X, X1.alloc (.cells (spC (sp0 12) (.slice none 0 0) (.slice none 0 0)) 40) = X := ⟨_, rfl⟩
  have hbX0 : Below X1.heap.size X1 X := by rw [← hX]; exact ballc (Below.refl _ _) _
  have hbX : Below W.heap.size W X := bnext hb1 hbX0
  have q0 : Bq X W.heap.size 40 (spC s (.slice a1 n1 c1) (.slice a2 n2 c2)) := r0.keep hbX0 r0.lt
  have q1 : Bq X (W.heap.size + 1) 40 zSt := r1.keep hbX0 r1.lt
  have q2 : Bq X X1.heap.size 40 (spC (sp0 12) (.slice none 0 0) (.slice none 0 0)) := by rw [← hX]; exact Bq.new _ _ _
  have k00 := r0.cell 0 (.int .i64 s.kind) rfl
  rw [hk] at k00
  unfold spC sp0 at hX
  unfold spC zSt at hX1
  rw [hk] at hX1
  unfold spC
  rw [hk]
  have k0 := q0.cell 0 (.int .i64 s.kind) rfl
  rw [hk] at k0
  have s1 := q0.cell 1 (.int .i64 s.site) rfl
  have kk0 : Kp (fun i => i = X1.heap.size) X X := Kp.refl _ _
  have o0 := q2.cell 1 (.int .i64 0) rfl
  have f0 := q2.frozen 1
  have l0 := q2.lt
  obtain ⟨Y1, hY1⟩ : ∃ Y, X.setCell ⟨X1.heap.size, 1, none⟩ (.int .i64 s.site) = Y := ⟨_, rfl⟩
  have p0 := q2.sets 1 (.int .i64 s.site)
  rw [hY1] at p0
  have kk1 := kk0.trans (Kp.set (N := fun i => i = X1.heap.size) X ⟨X1.heap.size, 1, none⟩ (.int .i64 s.site) rfl) (fun i hi => .inl hi)
  rw [hY1] at kk1
  have sy1_1 := (q0.kp kk1 (by omega)).cell 1 (.int .i64 s.site) rfl
  have z2 : Bq Y1 X1.heap.size 40 #[.int .i64 12, .int .i64 s.site, .int .i64 0, .int .i64 0, .int .i64 0, .int .i64 0, .string ⟨#[]⟩, .slice none 0 0, .slice none 0 0] := p0
  have z1 : Bq Y1 (W.heap.size + 1) 40 zSt := q1.kp kk1 (by omega)
  have hz : ∀ V, Below W.heap.size W V → BrA W0 W s (.returned (.agg #[.int .i64 12, .int .i64 s.site, .int .i64 0, .int .i64 0, .int .i64 0, .int .i64 0, .string ⟨#[]⟩, .slice none 0 0, .slice none 0 0])) V := fun V hV => by
    unfold BrA
    rw [hbl]
    exact ⟨_, _, _, _, _, _, rfl, RC.nil _ _ _, RC.nil _ _ _, hV⟩
  have bZ : Below W.heap.size W (Y1.setRow (W.heap.size + 1) #[.int .i64 12, .int .i64 s.site, .int .i64 0, .int .i64 0, .int .i64 0, .int .i64 0, .string ⟨#[]⟩, .slice none 0 0, .slice none 0 0]) := (kp_setRow Y1 (W.heap.size + 1) #[.int .i64 12, .int .i64 s.site, .int .i64 0, .int .i64 0, .int .i64 0, .int .i64 0, .string ⟨#[]⟩, .slice none 0 0, .slice none 0 0]).below (kk1.below hbX (fun i e => by omega)) (fun i e => by omega)
  have bZd : Below W.heap.size W (Y1.drew.setRow (W.heap.size + 1) #[.int .i64 12, .int .i64 s.site, .int .i64 0, .int .i64 0, .int .i64 0, .int .i64 0, .string ⟨#[]⟩, .slice none 0 0, .slice none 0 0]) := (kp_setRow Y1.drew (W.heap.size + 1) #[.int .i64 12, .int .i64 s.site, .int .i64 0, .int .i64 0, .int .i64 0, .int .i64 0, .string ⟨#[]⟩, .slice none 0 0, .slice none 0 0]).below ((kk1.below hbX (fun i e => by omega)).drew) (fun i e => by omega)
  have HG := hide (show Bq Y1 X1.heap.size 40 #[.int .i64 12, .int .i64 s.site, .int .i64 0, .int .i64 0, .int .i64 0, .int .i64 0, .string ⟨#[]⟩, .slice none 0 0, .slice none 0 0] ∧ Bq Y1 (W.heap.size + 1) 40 zSt from ⟨z2, z1⟩)
  have HO := hide (show (#[.int .i64 12, .int .i64 s.site, .int .i64 0, .int .i64 0, .int .i64 0, .int .i64 0, .string ⟨#[]⟩, .slice none 0 0, .slice none 0 0] : Array Value).all (·.oneCell') = true by simp [Value.oneCell'])
  have HZ := hide (And.intro (hz _ bZ) (hz _ bZd))
  clear q0 q1 q2 r0 r1 hb1 hs1 hbX0 z1 z2 hz bZ bZd hbX hd hb hbl kk0 kk1 p0
  have HX := hide hX
  clear hX
  go_enter Tryz.func21, Tryz.ntmps21
  go_upto_region 2 with fail
  rw [unhide HX]
  go_wp2_with (first | refine wpl_loadS rfl _ rfl rfl (unhide HG).1 rfl ?_ | refine wpl_storeS (cs := #[.int .i64 12, .int .i64 s.site, .int .i64 0, .int .i64 0, .int .i64 0, .int .i64 0, .string ⟨#[]⟩, .slice none 0 0, .slice none 0 0]) rfl _ _ rfl rfl rfl (unhide HG).2 rfl rfl (unhide HO) ?_)
  refine bodyPost_ret (results_cell_row rfl _ _ (W.heap.size + 1) _ #[.int .i64 12, .int .i64 s.site, .int .i64 0, .int .i64 0, .int .i64 0, .int .i64 0, .string ⟨#[]⟩, .slice none 0 0, .slice none 0 0] _ _ rfl (setRow_heap _ _ _ #[.int .i64 12, .int .i64 s.site, .int .i64 0, .int .i64 0, .int .i64 0, .int .i64 0, .string ⟨#[]⟩, .slice none 0 0, .slice none 0 0] _ _ (unhide HG).2) Tryz.underlying40 rfl sizeSt) rfl ?_
  first | exact (unhide HZ).1 | exact (unhide HZ).2

set_option maxRecDepth 100000 in
set_option maxHeartbeats 4000000 in
theorem bare13 {W0 W : World} (s : Sp) (a1 : Option Addr) (n1 c1 : Nat) (a2 : Option Addr) (n2 c2 : Nat) (hd : RNm W0 (.slice a1 n1 c1) s.draws) (hb : RBy W0 (.slice a2 n2 c2) s.data) (hk : s.kind = 13) :
    Calls Tryz.prog 21 #[.agg (spC s (.slice a1 n1 c1) (.slice a2 n2 c2))] W (BrA W0 W s) := by
  have hbl : bareL s = ⟨13, s.site, 0, 0, 0, 0, ⟨#[]⟩, [], []⟩ := by
    obtain ⟨k, q1, q2, q3, q4, q5, q6, q7, q8⟩ := s
    simp only at hk
    subst hk
    rfl
  obtain ⟨X1, hX1⟩ : ∃ X, (W.alloc (.cells (spC s (.slice a1 n1 c1) (.slice a2 n2 c2)) 40)).alloc (.cells zSt 40) = X := ⟨_, rfl⟩
  have hb1 : Below W.heap.size W X1 := by rw [← hX1]; exact ballc (ballc (Below.refl _ _) _) _
  have hs1 : X1.heap.size = W.heap.size + 2 := by rw [← hX1]; simp
  have r0 : Bq X1 W.heap.size 40 (spC s (.slice a1 n1 c1) (.slice a2 n2 c2)) := by rw [← hX1]; exact (Bq.new W _ _).keep (ballc (Below.refl _ _) _) (Bq.new W _ _).lt
  have r1 : Bq X1 (W.heap.size + 1) 40 zSt := by
    have h := Bq.new (W.alloc (.cells (spC s (.slice a1 n1 c1) (.slice a2 n2 c2)) 40)) 40 zSt
    rw [World.size_alloc] at h
    rw [← hX1]
    exact h
  obtain ⟨X, hX⟩ : ∃ X, X1.alloc (.cells (spC (sp0 13) (.slice none 0 0) (.slice none 0 0)) 40) = X := ⟨_, rfl⟩
  have hbX0 : Below X1.heap.size X1 X := by rw [← hX]; exact ballc (Below.refl _ _) _
  have hbX : Below W.heap.size W X := bnext hb1 hbX0
  have q0 : Bq X W.heap.size 40 (spC s (.slice a1 n1 c1) (.slice a2 n2 c2)) := r0.keep hbX0 r0.lt
  have q1 : Bq X (W.heap.size + 1) 40 zSt := r1.keep hbX0 r1.lt
  have q2 : Bq X X1.heap.size 40 (spC (sp0 13) (.slice none 0 0) (.slice none 0 0)) := by rw [← hX]; exact Bq.new _ _ _
  have k00 := r0.cell 0 (.int .i64 s.kind) rfl
  rw [hk] at k00
  unfold spC sp0 at hX
  unfold spC zSt at hX1
  rw [hk] at hX1
  unfold spC
  rw [hk]
  have k0 := q0.cell 0 (.int .i64 s.kind) rfl
  rw [hk] at k0
  have s1 := q0.cell 1 (.int .i64 s.site) rfl
  have kk0 : Kp (fun i => i = X1.heap.size) X X := Kp.refl _ _
  have o0 := q2.cell 1 (.int .i64 0) rfl
  have f0 := q2.frozen 1
  have l0 := q2.lt
  obtain ⟨Y1, hY1⟩ : ∃ Y, X.setCell ⟨X1.heap.size, 1, none⟩ (.int .i64 s.site) = Y := ⟨_, rfl⟩
  have p0 := q2.sets 1 (.int .i64 s.site)
  rw [hY1] at p0
  have kk1 := kk0.trans (Kp.set (N := fun i => i = X1.heap.size) X ⟨X1.heap.size, 1, none⟩ (.int .i64 s.site) rfl) (fun i hi => .inl hi)
  rw [hY1] at kk1
  have sy1_1 := (q0.kp kk1 (by omega)).cell 1 (.int .i64 s.site) rfl
  have z2 : Bq Y1 X1.heap.size 40 #[.int .i64 13, .int .i64 s.site, .int .i64 0, .int .i64 0, .int .i64 0, .int .i64 0, .string ⟨#[]⟩, .slice none 0 0, .slice none 0 0] := p0
  have z1 : Bq Y1 (W.heap.size + 1) 40 zSt := q1.kp kk1 (by omega)
  have hz : ∀ V, Below W.heap.size W V → BrA W0 W s (.returned (.agg #[.int .i64 13, .int .i64 s.site, .int .i64 0, .int .i64 0, .int .i64 0, .int .i64 0, .string ⟨#[]⟩, .slice none 0 0, .slice none 0 0])) V := fun V hV => by
    unfold BrA
    rw [hbl]
    exact ⟨_, _, _, _, _, _, rfl, RC.nil _ _ _, RC.nil _ _ _, hV⟩
  have bZ : Below W.heap.size W (Y1.setRow (W.heap.size + 1) #[.int .i64 13, .int .i64 s.site, .int .i64 0, .int .i64 0, .int .i64 0, .int .i64 0, .string ⟨#[]⟩, .slice none 0 0, .slice none 0 0]) := (kp_setRow Y1 (W.heap.size + 1) #[.int .i64 13, .int .i64 s.site, .int .i64 0, .int .i64 0, .int .i64 0, .int .i64 0, .string ⟨#[]⟩, .slice none 0 0, .slice none 0 0]).below (kk1.below hbX (fun i e => by omega)) (fun i e => by omega)
  have bZd : Below W.heap.size W (Y1.drew.setRow (W.heap.size + 1) #[.int .i64 13, .int .i64 s.site, .int .i64 0, .int .i64 0, .int .i64 0, .int .i64 0, .string ⟨#[]⟩, .slice none 0 0, .slice none 0 0]) := (kp_setRow Y1.drew (W.heap.size + 1) #[.int .i64 13, .int .i64 s.site, .int .i64 0, .int .i64 0, .int .i64 0, .int .i64 0, .string ⟨#[]⟩, .slice none 0 0, .slice none 0 0]).below ((kk1.below hbX (fun i e => by omega)).drew) (fun i e => by omega)
  have HG := hide (show Bq Y1 X1.heap.size 40 #[.int .i64 13, .int .i64 s.site, .int .i64 0, .int .i64 0, .int .i64 0, .int .i64 0, .string ⟨#[]⟩, .slice none 0 0, .slice none 0 0] ∧ Bq Y1 (W.heap.size + 1) 40 zSt from ⟨z2, z1⟩)
  have HO := hide (show (#[.int .i64 13, .int .i64 s.site, .int .i64 0, .int .i64 0, .int .i64 0, .int .i64 0, .string ⟨#[]⟩, .slice none 0 0, .slice none 0 0] : Array Value).all (·.oneCell') = true by simp [Value.oneCell'])
  have HZ := hide (And.intro (hz _ bZ) (hz _ bZd))
  clear q0 q1 q2 r0 r1 hb1 hs1 hbX0 z1 z2 hz bZ bZd hbX hd hb hbl kk0 kk1 p0
  have HX := hide hX
  clear hX
  go_enter Tryz.func21, Tryz.ntmps21
  go_upto_region 2 with fail
  rw [unhide HX]
  go_wp2_with (first | refine wpl_loadS rfl _ rfl rfl (unhide HG).1 rfl ?_ | refine wpl_storeS (cs := #[.int .i64 13, .int .i64 s.site, .int .i64 0, .int .i64 0, .int .i64 0, .int .i64 0, .string ⟨#[]⟩, .slice none 0 0, .slice none 0 0]) rfl _ _ rfl rfl rfl (unhide HG).2 rfl rfl (unhide HO) ?_)
  refine bodyPost_ret (results_cell_row rfl _ _ (W.heap.size + 1) _ #[.int .i64 13, .int .i64 s.site, .int .i64 0, .int .i64 0, .int .i64 0, .int .i64 0, .string ⟨#[]⟩, .slice none 0 0, .slice none 0 0] _ _ rfl (setRow_heap _ _ _ #[.int .i64 13, .int .i64 s.site, .int .i64 0, .int .i64 0, .int .i64 0, .int .i64 0, .string ⟨#[]⟩, .slice none 0 0, .slice none 0 0] _ _ (unhide HG).2) Tryz.underlying40 rfl sizeSt) rfl ?_
  first | exact (unhide HZ).1 | exact (unhide HZ).2

set_option maxRecDepth 100000 in
set_option maxHeartbeats 4000000 in
theorem bare14 {W0 W : World} (s : Sp) (a1 : Option Addr) (n1 c1 : Nat) (a2 : Option Addr) (n2 c2 : Nat) (hd : RNm W0 (.slice a1 n1 c1) s.draws) (hb : RBy W0 (.slice a2 n2 c2) s.data) (hk : s.kind = 14) :
    Calls Tryz.prog 21 #[.agg (spC s (.slice a1 n1 c1) (.slice a2 n2 c2))] W (BrA W0 W s) := by
  have hbl : bareL s = ⟨14, 0, 0, 0, 0, 0, ⟨#[]⟩, [], []⟩ := by
    obtain ⟨k, q1, q2, q3, q4, q5, q6, q7, q8⟩ := s
    simp only at hk
    subst hk
    rfl
  obtain ⟨X1, hX1⟩ : ∃ X, (W.alloc (.cells (spC s (.slice a1 n1 c1) (.slice a2 n2 c2)) 40)).alloc (.cells zSt 40) = X := ⟨_, rfl⟩
  have hb1 : Below W.heap.size W X1 := by rw [← hX1]; exact ballc (ballc (Below.refl _ _) _) _
  have hs1 : X1.heap.size = W.heap.size + 2 := by rw [← hX1]; simp
  have r0 : Bq X1 W.heap.size 40 (spC s (.slice a1 n1 c1) (.slice a2 n2 c2)) := by rw [← hX1]; exact (Bq.new W _ _).keep (ballc (Below.refl _ _) _) (Bq.new W _ _).lt
  have r1 : Bq X1 (W.heap.size + 1) 40 zSt := by
    have h := Bq.new (W.alloc (.cells (spC s (.slice a1 n1 c1) (.slice a2 n2 c2)) 40)) 40 zSt
    rw [World.size_alloc] at h
    rw [← hX1]
    exact h
  obtain ⟨X, hX⟩ : ∃ X, X1.alloc (.cells (spC (sp0 14) (.slice none 0 0) (.slice none 0 0)) 40) = X := ⟨_, rfl⟩
  have hbX0 : Below X1.heap.size X1 X := by rw [← hX]; exact ballc (Below.refl _ _) _
  have hbX : Below W.heap.size W X := bnext hb1 hbX0
  have q0 : Bq X W.heap.size 40 (spC s (.slice a1 n1 c1) (.slice a2 n2 c2)) := r0.keep hbX0 r0.lt
  have q1 : Bq X (W.heap.size + 1) 40 zSt := r1.keep hbX0 r1.lt
  have q2 : Bq X X1.heap.size 40 (spC (sp0 14) (.slice none 0 0) (.slice none 0 0)) := by rw [← hX]; exact Bq.new _ _ _
  have k00 := r0.cell 0 (.int .i64 s.kind) rfl
  rw [hk] at k00
  unfold spC sp0 at hX
  unfold spC zSt at hX1
  rw [hk] at hX1
  unfold spC
  rw [hk]
  have k0 := q0.cell 0 (.int .i64 s.kind) rfl
  rw [hk] at k0
  have kk0 : Kp (fun i => i = X1.heap.size) X X := Kp.refl _ _
  have z2 : Bq X X1.heap.size 40 #[.int .i64 14, .int .i64 0, .int .i64 0, .int .i64 0, .int .i64 0, .int .i64 0, .string ⟨#[]⟩, .slice none 0 0, .slice none 0 0] := q2
  have z1 : Bq X (W.heap.size + 1) 40 zSt := q1.kp kk0 (by omega)
  have hz : ∀ V, Below W.heap.size W V → BrA W0 W s (.returned (.agg #[.int .i64 14, .int .i64 0, .int .i64 0, .int .i64 0, .int .i64 0, .int .i64 0, .string ⟨#[]⟩, .slice none 0 0, .slice none 0 0])) V := fun V hV => by
    unfold BrA
    rw [hbl]
    exact ⟨_, _, _, _, _, _, rfl, RC.nil _ _ _, RC.nil _ _ _, hV⟩
  have bZ : Below W.heap.size W (X.setRow (W.heap.size + 1) #[.int .i64 14, .int .i64 0, .int .i64 0, .int .i64 0, .int .i64 0, .int .i64 0, .string ⟨#[]⟩, .slice none 0 0, .slice none 0 0]) := (kp_setRow X (W.heap.size + 1) #[.int .i64 14, .int .i64 0, .int .i64 0, .int .i64 0, .int .i64 0, .int .i64 0, .string ⟨#[]⟩, .slice none 0 0, .slice none 0 0]).below (kk0.below hbX (fun i e => by omega)) (fun i e => by omega)
  have bZd : Below W.heap.size W (X.drew.setRow (W.heap.size + 1) #[.int .i64 14, .int .i64 0, .int .i64 0, .int .i64 0, .int .i64 0, .int .i64 0, .string ⟨#[]⟩, .slice none 0 0, .slice none 0 0]) := (kp_setRow X.drew (W.heap.size + 1) #[.int .i64 14, .int .i64 0, .int .i64 0, .int .i64 0, .int .i64 0, .int .i64 0, .string ⟨#[]⟩, .slice none 0 0, .slice none 0 0]).below ((kk0.below hbX (fun i e => by omega)).drew) (fun i e => by omega)
  have HG := hide (show Bq X X1.heap.size 40 #[.int .i64 14, .int .i64 0, .int .i64 0, .int .i64 0, .int .i64 0, .int .i64 0, .string ⟨#[]⟩, .slice none 0 0, .slice none 0 0] ∧ Bq X (W.heap.size + 1) 40 zSt from ⟨z2, z1⟩)
  have HO := hide (show (#[.int .i64 14, .int .i64 0, .int .i64 0, .int .i64 0, .int .i64 0, .int .i64 0, .string ⟨#[]⟩, .slice none 0 0, .slice none 0 0] : Array Value).all (·.oneCell') = true by simp [Value.oneCell'])
  have HZ := hide (And.intro (hz _ bZ) (hz _ bZd))
  clear q0 q1 q2 r0 r1 hb1 hs1 hbX0 z1 z2 hz bZ bZd hbX hd hb hbl kk0
  have HX := hide hX
  clear hX
  go_enter Tryz.func21, Tryz.ntmps21
  go_upto_region 2 with fail
  rw [unhide HX]
  go_wp2_with (first | refine wpl_loadS rfl _ rfl rfl (unhide HG).1 rfl ?_ | refine wpl_storeS (cs := #[.int .i64 14, .int .i64 0, .int .i64 0, .int .i64 0, .int .i64 0, .int .i64 0, .string ⟨#[]⟩, .slice none 0 0, .slice none 0 0]) rfl _ _ rfl rfl rfl (unhide HG).2 rfl rfl (unhide HO) ?_)
  refine bodyPost_ret (results_cell_row rfl _ _ (W.heap.size + 1) _ #[.int .i64 14, .int .i64 0, .int .i64 0, .int .i64 0, .int .i64 0, .int .i64 0, .string ⟨#[]⟩, .slice none 0 0, .slice none 0 0] _ _ rfl (setRow_heap _ _ _ #[.int .i64 14, .int .i64 0, .int .i64 0, .int .i64 0, .int .i64 0, .int .i64 0, .string ⟨#[]⟩, .slice none 0 0, .slice none 0 0] _ _ (unhide HG).2) Tryz.underlying40 rfl sizeSt) rfl ?_
  first | exact (unhide HZ).1 | exact (unhide HZ).2

set_option maxRecDepth 100000 in
set_option maxHeartbeats 4000000 in
theorem bare_other {W0 W : World} (s : Sp) (a1 : Option Addr) (n1 c1 : Nat) (a2 : Option Addr) (n2 c2 : Nat) (hk : ¬ (1 ≤ s.kind ∧ s.kind ≤ 14)) :
    Calls Tryz.prog 21 #[.agg (spC s (.slice a1 n1 c1) (.slice a2 n2 c2))] W (BrA W0 W s) := by
  have hbl : bareL s = sp0 s.kind := if_neg hk
  obtain ⟨X1, hX1⟩ : ∃ X, (W.alloc (.cells (spC s (.slice a1 n1 c1) (.slice a2 n2 c2)) 40)).alloc (.cells zSt 40) = X := ⟨_, rfl⟩
  have hb1 : Below W.heap.size W X1 := by rw [← hX1]; exact ballc (ballc (Below.refl _ _) _) _
  have hs1 : X1.heap.size = W.heap.size + 2 := by rw [← hX1]; simp
  have r0 : Bq X1 W.heap.size 40 (spC s (.slice a1 n1 c1) (.slice a2 n2 c2)) := by rw [← hX1]; exact (Bq.new W _ _).keep (ballc (Below.refl _ _) _) (Bq.new W _ _).lt
  have r1 : Bq X1 (W.heap.size + 1) 40 zSt := by
    have h := Bq.new (W.alloc (.cells (spC s (.slice a1 n1 c1) (.slice a2 n2 c2)) 40)) 40 zSt
    rw [World.size_alloc] at h
    rw [← hX1]
    exact h
  obtain ⟨X, hX⟩ : ∃ X, X1.alloc (.cells (spC (sp0 s.kind) (.slice none 0 0) (.slice none 0 0)) 40) = X := ⟨_, rfl⟩
  have hbX0 : Below X1.heap.size X1 X := by rw [← hX]; exact ballc (Below.refl _ _) _
  have hbX : Below W.heap.size W X := bnext hb1 hbX0
  have q0 : Bq X W.heap.size 40 (spC s (.slice a1 n1 c1) (.slice a2 n2 c2)) := r0.keep hbX0 r0.lt
  have q1 : Bq X (W.heap.size + 1) 40 zSt := r1.keep hbX0 r1.lt
  have q2 : Bq X X1.heap.size 40 (spC (sp0 s.kind) (.slice none 0 0) (.slice none 0 0)) := by rw [← hX]; exact Bq.new _ _ _
  have k00 := r0.cell 0 (.int .i64 s.kind) rfl
  have k0 := q0.cell 0 (.int .i64 s.kind) rfl
  have n1 : (s.kind == 1) = false := by rw [beq_eq_false_iff_ne]; omega
  have n2 : (s.kind == 2) = false := by rw [beq_eq_false_iff_ne]; omega
  have n3 : (s.kind == 3) = false := by rw [beq_eq_false_iff_ne]; omega
  have n4 : (s.kind == 4) = false := by rw [beq_eq_false_iff_ne]; omega
  have n5 : (s.kind == 5) = false := by rw [beq_eq_false_iff_ne]; omega
  have n6 : (s.kind == 6) = false := by rw [beq_eq_false_iff_ne]; omega
  have n7 : (s.kind == 7) = false := by rw [beq_eq_false_iff_ne]; omega
  have n8 : (s.kind == 8) = false := by rw [beq_eq_false_iff_ne]; omega
  have n9 : (s.kind == 9) = false := by rw [beq_eq_false_iff_ne]; omega
  have n10 : (s.kind == 10) = false := by rw [beq_eq_false_iff_ne]; omega
  have n11 : (s.kind == 11) = false := by rw [beq_eq_false_iff_ne]; omega
  have n12 : (s.kind == 12) = false := by rw [beq_eq_false_iff_ne]; omega
  have n13 : (s.kind == 13) = false := by rw [beq_eq_false_iff_ne]; omega
  have n14 : (s.kind == 14) = false := by rw [beq_eq_false_iff_ne]; omega
  have bZ : Below W.heap.size W (X.setRow (W.heap.size + 1) (spC (sp0 s.kind) (.slice none 0 0) (.slice none 0 0))) := (kp_setRow X (W.heap.size + 1) (spC (sp0 s.kind) (.slice none 0 0) (.slice none 0 0))).below hbX (fun i e => by omega)
  have HG := hide (show Bq X X1.heap.size 40 (spC (sp0 s.kind) (.slice none 0 0) (.slice none 0 0)) ∧ Bq X (W.heap.size + 1) 40 zSt from ⟨q2, q1⟩)
  have HO := hide (spC_one (sp0 s.kind) none 0 0 none 0 0)
  have HZ := hide (show BrA W0 W s (.returned (.agg (spC (sp0 s.kind) (.slice none 0 0) (.slice none 0 0)))) (X.setRow (W.heap.size + 1) (spC (sp0 s.kind) (.slice none 0 0) (.slice none 0 0))) from by
    unfold BrA
    rw [hbl]
    exact ⟨none, 0, 0, none, 0, 0, rfl, RC.nil _ _ _, RC.nil _ _ _, bZ⟩)
  unfold spC sp0 at hX
  unfold spC zSt at hX1
  unfold spC
  have HX := hide hX
  clear q0 q1 q2 r0 r1 hb1 hs1 hbX0 hbX hbl bZ hX hk
  go_enter Tryz.func21, Tryz.ntmps21
  go_upto_region 2 with fail
  rw [unhide HX]
  go_wp2_with (first | refine wpl_loadS rfl _ rfl rfl (unhide HG).1 rfl ?_ | refine wpl_storeS (cs := spC (sp0 s.kind) (.slice none 0 0) (.slice none 0 0)) rfl _ _ rfl rfl rfl (unhide HG).2 rfl rfl (unhide HO) ?_)
  refine bodyPost_ret (results_cell_row rfl _ _ (W.heap.size + 1) _ (spC (sp0 s.kind) (.slice none 0 0) (.slice none 0 0)) _ _ rfl (setRow_heap _ _ _ (spC (sp0 s.kind) (.slice none 0 0) (.slice none 0 0)) _ _ (unhide HG).2) Tryz.underlying40 rfl sizeSt) rfl ?_
  exact unhide HZ

theorem bare_in {W0 W : World} (s : Sp) (a1 : Option Addr) (n1 c1 : Nat) (a2 : Option Addr) (n2 c2 : Nat) (hd : RNm W0 (.slice a1 n1 c1) s.draws) (hb : RBy W0 (.slice a2 n2 c2) s.data) :
    Calls Tryz.prog 21 #[.agg (spC s (.slice a1 n1 c1) (.slice a2 n2 c2))] W (BrA W0 W s) := by
  by_cases h : 1 ≤ s.kind ∧ s.kind ≤ 14
  · have hk : s.kind = 1 ∨ s.kind = 2 ∨ s.kind = 3 ∨ s.kind = 4 ∨ s.kind = 5 ∨ s.kind = 6 ∨ s.kind = 7 ∨ s.kind = 8 ∨ s.kind = 9 ∨ s.kind = 10 ∨ s.kind = 11 ∨ s.kind = 12 ∨ s.kind = 13 ∨ s.kind = 14 := by omega
    rcases hk with hk | hk | hk | hk | hk | hk | hk | hk | hk | hk | hk | hk | hk | hk
    · exact bare1 s a1 n1 c1 a2 n2 c2 hd hb hk
    · exact bare2 s a1 n1 c1 a2 n2 c2 hd hb hk
    · exact bare3 s a1 n1 c1 a2 n2 c2 hd hb hk
    · exact bare4 s a1 n1 c1 a2 n2 c2 hd hb hk
    · exact bare5 s a1 n1 c1 a2 n2 c2 hd hb hk
    · exact bare6 s a1 n1 c1 a2 n2 c2 hd hb hk
    · exact bare7 s a1 n1 c1 a2 n2 c2 hd hb hk
    · exact bare8 s a1 n1 c1 a2 n2 c2 hd hb hk
    · exact bare9 s a1 n1 c1 a2 n2 c2 hd hb hk
    · exact bare10 s a1 n1 c1 a2 n2 c2 hd hb hk
    · exact bare11 s a1 n1 c1 a2 n2 c2 hd hb hk
    · exact bare12 s a1 n1 c1 a2 n2 c2 hd hb hk
    · exact bare13 s a1 n1 c1 a2 n2 c2 hd hb hk
    · exact bare14 s a1 n1 c1 a2 n2 c2 hd hb hk
  · exact bare_other s a1 n1 c1 a2 n2 c2 h
end Go.Proofs.YtkndjbmlkfpfoaaGreatDoor

/-
  The row that the law wants: steps with what their kinds have.
-/
set_option linter.unusedSimpArgs false
set_option linter.unusedVariables false
namespace Go.Proofs.YtkndjbmlkfpfoaaGreatDoor
open Go.RowKit Go.Lib

/-- a row of steps of one's own, whose rows are somebody's -/
structure OwB3 (w0 W : World) (v : Value) (m : List (Sp × Value × Value)) : Prop where
  bel : Below w0.heap.size w0 W
  row : W.ownsRow w0.heap.size 40 9 v m.length (flat encS m)
  dr : ∀ e ∈ m, RNm w0 e.2.1 e.1.draws
  by_ : ∀ e ∈ m, RBy w0 e.2.2 e.1.data
theorem OwB3.below {w0 W W' : World} {v : Value} {m : List (Sp × Value × Value)} (h : OwB3 w0 W v m) (hb : Below W.heap.size W W') : OwB3 w0 W' v m :=
  ⟨bnext h.bel hb, owns_kp (N := fun _ => False) h.row (Kp.of_below hb) (fun _ _ e => e), h.dr, h.by_⟩
theorem OwB3.rs {w0 W : World} {v : Value} {m : List (Sp × Value × Value)} (h : OwB3 w0 W v m) : RStp W v m := ⟨RC.of_owns h.row, fun e he => RC.below (h.dr e he) h.bel, fun e he => RC.below (h.by_ e he) h.bel⟩
theorem OwB3.push {w0 W X : World} {a : Option Addr} {n c : Nat} {m : List (Sp × Value × Value)} (h : OwB3 w0 W (.slice a n c) m) (ty : TypeId) (hX : Below W.heap.size W X) {s : Sp} {a1 : Option Addr} {n1 c1 : Nat} {a2 : Option Addr} {n2 c2 : Nat} {nb : Nat} (hbx : Bq X nb 40 (spC s (.slice a1 n1 c1) (.slice a2 n2 c2))) (hd : RNm w0 (.slice a1 n1 c1) s.draws) (hb : RBy w0 (.slice a2 n2 c2) s.data) (hl : m.length ≤ 1000000) (hn : m.length = n) :
    ∃ (a' : Option Addr) (c' : Nat) (X' : World), (Builtin.append_ #[23, 23] ty #[.slice a n c, .slice (some ⟨nb, 0, none⟩) 1 1]).run Tryz.prog X = .ok (.slice a' (n + 1) c') X' ∧ Hid (OwB3 w0 X' (.slice a' (n + 1) c') (m ++ [(s, .slice a1 n1 c1, .slice a2 n2 c2)])) := by
  subst hn
  have h' := h.below hX
  have hsz := h'.bel.size
  obtain ⟨i0, hi, hz0, hz1, hz2⟩ := info_parts5 infoSt
  obtain ⟨v', w', g1, g2, g3, g4, g5⟩ := run_append_own_at (P := Tryz.prog) X w0.heap.size 23 ty 40 i0 _ 9 112 Tryz.underlying23 hi hz0 hz1 hz2 rfl (by decide) (.slice a m.length c) m.length _ h'.row ⟨nb, 0, none⟩ 1 1 (encS (s, .slice a1 n1 c1, .slice a2 n2 c2)) rfl (fun j u hu => by
    rw [Addr.add_lit, Nat.zero_add]
    exact hbx.cell j u (by rw [← hu]; simp [encS])) (fun u hu => by simp [encS, spC] at hu; rcases hu with rfl | rfl | rfl | rfl | rfl | rfl | rfl | rfl | rfl <;> rfl) (by unfold maxLen; omega) (by omega) (by first | omega | (simp; omega))
  have k : Kp (fun i => (Value.slice a m.length c).ownBlock = some i) X w' := Kp.of_grown g3 (fun k hk => hk)
  have e2 : w'.ownsRow w0.heap.size 40 9 v' (m ++ [(s, Value.slice a1 n1 c1, Value.slice a2 n2 c2)]).length (flat encS (m ++ [(s, Value.slice a1 n1 c1, Value.slice a2 n2 c2)])) := by
    rw [flat_append, List.length_append]
    simpa [flat] using g2
  obtain ⟨a', c', e⟩ := owns_form e2
  rw [List.length_append] at e
  have e' : v' = .slice a' (m.length + 1) c' := e
  subst e'
  refine ⟨a', c', w', g1, hide ⟨k.below h'.bel (fun i hi => (World.ownsRow.lt h'.row i hi).1), e2, fun e he => ?_, fun e he => ?_⟩⟩
  · rcases List.mem_append.1 he with he | he
    · exact h.dr e he
    · simp at he; subst he; exact hd
  · rcases List.mem_append.1 he with he | he
    · exact h.by_ e he
    · simp at he; subst he; exact hb
end Go.Proofs.YtkndjbmlkfpfoaaGreatDoor
