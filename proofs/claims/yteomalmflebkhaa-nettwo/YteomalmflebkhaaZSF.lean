/-
  The law's step, by its kinds.
-/
import Derived.Test.YteomalmflebkhaaZSB
import Derived.Test.YteomalmflebkhaaZRegU
import Derived.Test.YteomalmflebkhaaZRegI
import Derived.Shelf.Abstract
set_option linter.unusedSimpArgs false
set_option linter.unusedVariables false
namespace Go.Proofs.Yteomalmflebkhaa
open Go.RowKit Go.Lib

variable {S0 T0 : Nat → Prop} {W : World} {b r : Nat} {s : Stn}
/-- while both are called: who has been -/
def SJ (S0 T0 : Nat → Prop) (W : World) (x : Stp) (b r g kb : Nat) (s s2 : Stn) (c1 c2 : Nat) (f : Nat → Bool) (X : World) : Prop := SK S0 T0 W x b r g kb (if f c1 = true then s2 else s) (if f c2 = true then s2 else s) X
variable {x : Stp} {g kb c1 c2 : Nat} {s2 : Stn} {f : Nat → Bool} {X : World} {v : Value}
theorem SJ.y (h : SJ S0 T0 W x b r g kb s s2 c1 c2 f X) : X.cell? ⟨W.heap.size, 0, none⟩ = some (.int .i64 x.kind) ∧ X.cell? ⟨W.heap.size, 1, none⟩ = some (.int .i64 x.num) ∧ X.cell? ⟨W.heap.size, 2, none⟩ = some (.int .i64 x.frm) ∧ X.cell? ⟨W.heap.size, 3, none⟩ = some (.int .i64 x.to) ∧ X.cell? ⟨W.heap.size, 4, none⟩ = some (.int .i64 x.at_) ∧ X.cell? ⟨W.heap.size, 5, none⟩ = some x.vd := SK.y h
theorem SJ.nop (h : SJ S0 T0 W x b r g kb s s2 c1 c2 f X) (i : Nat) (h1 : (c1 == i) = false) (h2 : (c2 == i) = false) : SJ S0 T0 W x b r g kb s s2 c1 c2 (fun q => f q || q == i) X := by
  unfold SJ at *
  simp only [h1, h2, Bool.or_false]
  exact h
theorem SJ.one (h : SJ S0 T0 W x b r g kb s s2 c1 c2 f X) (hf : f c1 = false) {F : FuncId} {args : Array Value} (hc : ∀ s', SK S0 T0 W x b r g kb s s' X → Calls Try.prog F args X fun e X' => e = .returned v ∧ SK S0 T0 W x b r g kb s2 s' X') (hne : (c2 == c1) = false := by decide) : Calls Try.prog F args X fun e X' => e = .returned v ∧ SJ S0 T0 W x b r g kb s s2 c1 c2 (fun q => f q || q == c1) X' := by
  unfold SJ at *
  rw [hf] at h
  refine (hc _ h).mono ?_
  rintro e X' ⟨rfl, h⟩
  refine ⟨rfl, ?_⟩
  simpa [hne] using h
theorem SJ.two (h : SJ S0 T0 W x b r g kb s s2 c1 c2 f X) (hf : f c2 = false) {F : FuncId} {args : Array Value} (hc : ∀ s', SK S0 T0 W x b r g kb s' s X → Calls Try.prog F args X fun e X' => e = .returned v ∧ SK S0 T0 W x b r g kb s' s2 X') (hne : (c1 == c2) = false := by decide) : Calls Try.prog F args X fun e X' => e = .returned v ∧ SJ S0 T0 W x b r g kb s s2 c1 c2 (fun q => f q || q == c2) X' := by
  unfold SJ at *
  rw [hf] at h
  refine (hc _ h).mono ?_
  rintro e X' ⟨rfl, h⟩
  refine ⟨rfl, ?_⟩
  simpa [hne] using h
set_option maxRecDepth 100000 in
set_option maxHeartbeats 8000000 in
theorem step_5 (h1 : NL S0 W b s) (h2 : HL T0 W r s) (hS : ∀ i, S0 i → i < W.heap.size ∧ ¬ T0 i) (hT : ∀ i, T0 i → i < W.heap.size) (x : Stp) (hx : StW W x) (hxl : x.dat.length ≤ 60000) (hfx : x.dat ≠ [] → ∀ i, x.vd.ownBlock = some i → ¬ S0 i ∧ ¬ T0 i) (hk : x.kind = 5) : Calls Try.prog 13 #[.pointer (some ⟨b, 0, none⟩), .pointer (some ⟨r, 0, none⟩), .agg (stC x)] W (StA S0 T0 W b r (doS s x)) := by
  rw [show doS s x = altS s x.num x.at_ x.dat by unfold doS; rw [if_neg (by omega), if_neg (by omega), if_neg (by omega), if_neg (by omega), if_pos hk]]
  have q1 : (x.kind == 1) = false := by rw [hk]; rfl
  have q2 : (x.kind == 2) = false := by rw [hk]; rfl
  have q3 : (x.kind == 3) = false := by rw [hk]; rfl
  have q4 : (x.kind == 4) = false := by rw [hk]; rfl
  have q5 : (x.kind == 5) = true := by simpa using hk
  clear hk
  obtain ⟨X0, a1, k1, X1, X2, g, kb, X3, hX0, bx0, r1, hX2, r2, hKE, hSP⟩ := step_rows h1 h2 hS hT hx hxl hfx
  have K3 := hide (show SK S0 T0 W x b r g kb s s X3 from ⟨_, hSP, hKE⟩)
  obtain ⟨ad, cd, ev⟩ := hx.fd
  obtain ⟨M, hM⟩ : ∃ M, x.dat.length = M := ⟨_, rfl⟩
  obtain ⟨M1, hM1⟩ : ∃ M1, M + 1 = M1 := ⟨_, rfl⟩
  have hcap := hKE.cap
  have hnum := hx.num
  obtain ⟨z0, z1, z2, z3, z4, z5⟩ := (unhide K3).y
  have y5 := bx0.cell 5 x.vd rfl
  clear h1 h2 hS hT hx hfx hKE hSP bx0
  have Q1 := hide (fun (f : Nat → Bool) X (hf : f 6 = false) (J : SJ S0 T0 W x b r g kb s (altS s x.num x.at_ x.dat) 6 14 f X) => J.one hf (fun s' K => K.one (fun S hn hlt => Alter_in hn hlt hnum x.at_ _ _ x.dat K.gv (by omega))))
  have Q2 := hide (fun (f : Nat → Bool) X (hf : f 14 = false) (J : SJ S0 T0 W x b r g kb s (altS s x.num x.at_ x.dat) 6 14 f X) => J.two hf (fun s' K => K.two (fun T hl hf => by have rd := K.rd; rw [ev] at rd; exact rAlter_in hl x.num x.at_ ad cd x.dat rd (by omega))))
  have J0 : Hid (SJ S0 T0 W x b r g kb s (altS s x.num x.at_ x.dat) 6 14 (fun _ => false) X3.drew) := hide ((unhide K3).below (Below.refl _ _).drew)
  obtain ⟨s2, hs2⟩ : ∃ s2, altS s x.num x.at_ x.dat = s2 := ⟨_, rfl⟩
  obtain ⟨E, hE⟩ : ∃ E, altE s x.num x.at_ x.dat = E := ⟨_, rfl⟩
  rw [hs2, hE] at Q1 Q2
  rw [hs2] at J0 ⊢
  have HY := hide (fun (f : Nat → Bool) X (J : SJ S0 T0 W x b r g kb s s2 6 14 f X) => J.y)
  have HFn : Hid (∀ f X, f 6 = true → f 14 = true → SJ S0 T0 W x b r g kb s s2 6 14 f X → SK S0 T0 W x b r g kb s2 s2 X) := hide fun f X h7 h15 K => by unfold SJ at K; rw [h7, h15] at K; exact K
  clear hs2 hE
  rw [hM] at Q1
  try rw [hM] at Q2
  rw [hM] at ev
  have HVd := hide (And.intro ev (And.intro hM hM1))
  unfold stC at hX0
  unfold stC
  rw [ev] at hX0 y5 z5 r1 ⊢
  rw [hM] at r1 r2 hcap hxl
  rw [hM1] at r2 hcap
  have HR1 := hide r1
  have HR2 := hide r2
  have hM2 : M ≤ M1 := by omega
  have hM3 : M ≤ kb := by omega
  have hM4 : M1 ≤ 60001 := by omega
  clear r1 r2 ev hM
  replace hM1 := hide hM1
  go_enter Try.func13, Try.ntmps13
  go_wp2_with (first | (at_builtin; refine wpList_append_eq rfl _ _ 30 30 rfl _ _ _ _ rfl rfl (unhide HR1) ?_) | (at_builtin; refine wpList_append_eq rfl _ _ 30 30 rfl _ _ _ _ rfl rfl (unhide HR2) ?_))
  go_wp2_with fail
  refine wp_region_any (by kernel_rfl) ?_
  change wpAny _ _ _ _ _ _ _ (World.drew _)
  refine region_ss 231 (fun j => if j = 16 then 9 else 174 + j) ((0, (Value.pointer (some { block := b, off := 0 }))) :: (1, (Value.pointer (some { block := r, off := 0 }))) :: (5, (Value.pointer (some { block := W.heap.size, off := 0 }))) :: (8, (Value.slice (some { block := g, off := 0 }) M kb)) :: (7, (Value.slice (some { block := g, off := 0 }) M1 kb)) :: []) (SJ S0 T0 W x b r g kb s s2 6 14) (valsOf [isV (Value.pointer (some { block := b, off := 0 })), isV (Value.pointer (some { block := W.heap.size, off := 1 })), isV (Value.int .i64 x.num), isV (Value.pointer (some { block := W.heap.size, off := 4 })), isV (Value.int .i64 x.at_), isV (Value.slice (some { block := g, off := 0 }) M kb), isV (Value.int .i64 E), isV (Value.pointer (some { block := r, off := 0 })), isV (Value.pointer (some { block := W.heap.size, off := 1 })), isV (Value.int .i64 x.num), isV (Value.pointer (some { block := W.heap.size, off := 4 })), isV (Value.int .i64 x.at_), isV (Value.pointer (some { block := W.heap.size, off := 5 })), isV (Value.slice ad M cd), isV (Value.int .i64 E), isV (Value.bool true), isV (Value.bool true)]) (fun _ _ _ => True) [] ?fit ?stable ?none ?steps ?fin _ _ ?sz rfl ?base (unhide J0)
  case fit => kernel_rfl
  case sz => rfl
  case base => intro p hp; repeat (first | (rcases List.mem_cons.1 hp with rfl | hp; · rfl) | cases hp)
  case none =>
    intro j o' ho hdn w1 v
    have hj : j < 17 := (Array.getElem?_eq_some_iff.1 ho).1
    obtain rfl | rfl | rfl | rfl | rfl | rfl | rfl | rfl | rfl | rfl | rfl | rfl | rfl | rfl | rfl | rfl | rfl : j = 0 ∨ j = 1 ∨ j = 2 ∨ j = 3 ∨ j = 4 ∨ j = 5 ∨ j = 6 ∨ j = 7 ∨ j = 8 ∨ j = 9 ∨ j = 10 ∨ j = 11 ∨ j = 12 ∨ j = 13 ∨ j = 14 ∨ j = 15 ∨ j = 16 := by omega
    all_goals (exfalso; have e := Option.some.inj ho; rw [← e] at hdn; cases hdn)
  case stable =>
    intro j i f w1 w2 v hfj hfi hJ hv hG
    refine valsOf_stable (J := fun _ => True) (G := fun _ _ => True) (Stables.all ?_) j w1 w2 v trivial hv trivial
    repeat (refine Stables.same ?_)
    exact Stables.nil
  case steps =>
    refine .cons (fun f ρ wz hf hfe hρ hJ hb hd => by
      refine StepU.ok (by decide) ?_
      have d0 : ρ (.tmp 0) = (Value.pointer (some { block := b, off := 0 })) := hb (0, _) (List.mem_of_getElem? (i := 0) rfl)
      exact step_move (.tmp 0) rfl ⟨trivial, hJ.nop 0 (by decide) (by decide), d0⟩) ?_
    refine .cons (fun f ρ wz hf hfe hρ hJ hb hd => by
      refine StepU.ok (by decide) ?_
      have d0 : ρ (.tmp 5) = (Value.pointer (some { block := W.heap.size, off := 0 })) := hb (5, _) (List.mem_of_getElem? (i := 2) rfl)
      exact step_val (v := (Value.pointer (some { block := W.heap.size, off := 1 }))) (w' := wz) (by simp [go_sem, execOp, d0]) ⟨trivial, hJ.nop 1 (by decide) (by decide), rfl⟩) ?_
    refine .cons (fun f ρ wz hf hfe hρ hJ hb hd => by
      refine StepU.ok (by decide) ?_
      have d0 : ρ (.tmp 175) = (Value.pointer (some { block := W.heap.size, off := 1 })) := hd 0 _ rfl rfl
      have x0 := (unhide HY f _ hJ).2.1
      exact step_val (v := (Value.int .i64 x.num)) (w' := wz) (by simp [go_sem, execOp, d0, x0]) ⟨trivial, hJ.nop 2 (by decide) (by decide), rfl⟩) ?_
    refine .cons (fun f ρ wz hf hfe hρ hJ hb hd => by
      refine StepU.ok (by decide) ?_
      have d0 : ρ (.tmp 5) = (Value.pointer (some { block := W.heap.size, off := 0 })) := hb (5, _) (List.mem_of_getElem? (i := 2) rfl)
      exact step_val (v := (Value.pointer (some { block := W.heap.size, off := 4 }))) (w' := wz) (by simp [go_sem, execOp, d0]) ⟨trivial, hJ.nop 3 (by decide) (by decide), rfl⟩) ?_
    refine .cons (fun f ρ wz hf hfe hρ hJ hb hd => by
      refine StepU.ok (by decide) ?_
      have d0 : ρ (.tmp 177) = (Value.pointer (some { block := W.heap.size, off := 4 })) := hd 0 _ rfl rfl
      have x0 := (unhide HY f _ hJ).2.2.2.2.1
      exact step_val (v := (Value.int .i64 x.at_)) (w' := wz) (by simp [go_sem, execOp, d0, x0]) ⟨trivial, hJ.nop 4 (by decide) (by decide), rfl⟩) ?_
    refine .cons (fun f ρ wz hf hfe hρ hJ hb hd => by
      refine StepU.ok (by decide) ?_
      have d0 : ρ (.tmp 8) = (Value.slice (some { block := g, off := 0 }) M kb) := hb (8, _) (List.mem_of_getElem? (i := 3) rfl)
      exact step_move (.tmp 8) rfl ⟨trivial, hJ.nop 5 (by decide) (by decide), d0⟩) ?_
    refine .cons (fun f ρ wz hf hfe hρ hJ hb hd => by
      refine StepU.ok (by decide) ?_
      have d0 : ρ (.tmp 174) = (Value.pointer (some { block := b, off := 0 })) := hd 0 _ rfl rfl
      have d1 : ρ (.tmp 176) = (Value.int .i64 x.num) := hd 1 _ rfl rfl
      have d2 : ρ (.tmp 178) = (Value.int .i64 x.at_) := hd 2 _ rfl rfl
      have d3 : ρ (.tmp 179) = (Value.slice (some { block := g, off := 0 }) M kb) := hd 3 _ rfl rfl
      refine step_func 22 _ _ #[.pointer (some { block := b, off := 0 }), .int .i64 x.num, .int .i64 x.at_, .slice (some { block := g, off := 0 }) M kb] hρ rfl (enters_of Try.func22 (by kernel_rfl) rfl) (by simp [d0, d1, d2, d3]) ?_
      refine (unhide Q1 f wz (hf 6 (.inl rfl)) hJ).mono ?_
      rintro e W' ⟨rfl, K⟩
      exact ⟨_, rfl, trivial, K, rfl⟩) ?_
    refine .cons (fun f ρ wz hf hfe hρ hJ hb hd => by
      refine StepU.ok (by decide) ?_
      have d0 : ρ (.tmp 1) = (Value.pointer (some { block := r, off := 0 })) := hb (1, _) (List.mem_of_getElem? (i := 1) rfl)
      exact step_move (.tmp 1) rfl ⟨trivial, hJ.nop 7 (by decide) (by decide), d0⟩) ?_
    refine .cons (fun f ρ wz hf hfe hρ hJ hb hd => by
      refine StepU.ok (by decide) ?_
      have d0 : ρ (.tmp 5) = (Value.pointer (some { block := W.heap.size, off := 0 })) := hb (5, _) (List.mem_of_getElem? (i := 2) rfl)
      exact step_val (v := (Value.pointer (some { block := W.heap.size, off := 1 }))) (w' := wz) (by simp [go_sem, execOp, d0]) ⟨trivial, hJ.nop 8 (by decide) (by decide), rfl⟩) ?_
    refine .cons (fun f ρ wz hf hfe hρ hJ hb hd => by
      refine StepU.ok (by decide) ?_
      have d0 : ρ (.tmp 182) = (Value.pointer (some { block := W.heap.size, off := 1 })) := hd 0 _ rfl rfl
      have x0 := (unhide HY f _ hJ).2.1
      exact step_val (v := (Value.int .i64 x.num)) (w' := wz) (by simp [go_sem, execOp, d0, x0]) ⟨trivial, hJ.nop 9 (by decide) (by decide), rfl⟩) ?_
    refine .cons (fun f ρ wz hf hfe hρ hJ hb hd => by
      refine StepU.ok (by decide) ?_
      have d0 : ρ (.tmp 5) = (Value.pointer (some { block := W.heap.size, off := 0 })) := hb (5, _) (List.mem_of_getElem? (i := 2) rfl)
      exact step_val (v := (Value.pointer (some { block := W.heap.size, off := 4 }))) (w' := wz) (by simp [go_sem, execOp, d0]) ⟨trivial, hJ.nop 10 (by decide) (by decide), rfl⟩) ?_
    refine .cons (fun f ρ wz hf hfe hρ hJ hb hd => by
      refine StepU.ok (by decide) ?_
      have d0 : ρ (.tmp 184) = (Value.pointer (some { block := W.heap.size, off := 4 })) := hd 0 _ rfl rfl
      have x0 := (unhide HY f _ hJ).2.2.2.2.1
      exact step_val (v := (Value.int .i64 x.at_)) (w' := wz) (by simp [go_sem, execOp, d0, x0]) ⟨trivial, hJ.nop 11 (by decide) (by decide), rfl⟩) ?_
    refine .cons (fun f ρ wz hf hfe hρ hJ hb hd => by
      refine StepU.ok (by decide) ?_
      have d0 : ρ (.tmp 5) = (Value.pointer (some { block := W.heap.size, off := 0 })) := hb (5, _) (List.mem_of_getElem? (i := 2) rfl)
      exact step_val (v := (Value.pointer (some { block := W.heap.size, off := 5 }))) (w' := wz) (by simp [go_sem, execOp, d0]) ⟨trivial, hJ.nop 12 (by decide) (by decide), rfl⟩) ?_
    refine .cons (fun f ρ wz hf hfe hρ hJ hb hd => by
      refine StepU.ok (by decide) ?_
      have d0 : ρ (.tmp 186) = (Value.pointer (some { block := W.heap.size, off := 5 })) := hd 0 _ rfl rfl
      have x0 := (unhide HY f _ hJ).2.2.2.2.2
      rw [(unhide HVd).1] at x0
      exact step_val (v := (Value.slice ad M cd)) (w' := wz) (by simp [go_sem, execOp, d0, x0]) ⟨trivial, hJ.nop 13 (by decide) (by decide), rfl⟩) ?_
    refine .cons (fun f ρ wz hf hfe hρ hJ hb hd => by
      refine StepU.ok (by decide) ?_
      have d0 : ρ (.tmp 181) = (Value.pointer (some { block := r, off := 0 })) := hd 0 _ rfl rfl
      have d1 : ρ (.tmp 183) = (Value.int .i64 x.num) := hd 1 _ rfl rfl
      have d2 : ρ (.tmp 185) = (Value.int .i64 x.at_) := hd 2 _ rfl rfl
      have d3 : ρ (.tmp 187) = (Value.slice ad M cd) := hd 3 _ rfl rfl
      refine step_func 31 _ _ #[.pointer (some { block := r, off := 0 }), .int .i64 x.num, .int .i64 x.at_, .slice ad M cd] hρ rfl (enters_of Try.func31 (by kernel_rfl) rfl) (by simp [d0, d1, d2, d3]) ?_
      refine (unhide Q2 f wz (hf 14 (.inl rfl)) hJ).mono ?_
      rintro e W' ⟨rfl, K⟩
      exact ⟨_, rfl, trivial, K, rfl⟩) ?_
    refine .cons (fun f ρ wz hf hfe hρ hJ hb hd => by
      refine StepU.ok (by decide) ?_
      have d0 : ρ (.tmp 180) = (Value.int .i64 E) := hd 0 _ rfl rfl
      have d1 : ρ (.tmp 188) = (Value.int .i64 E) := hd 1 _ rfl rfl
      exact step_val (v := .bool true) (w' := wz) (by simp [go_sem, execOp, d0, d1]) ⟨trivial, hJ.nop 15 (by decide) (by decide), rfl⟩) ?_
    refine .cons (fun f ρ wz hf hfe hρ hJ hb hd => by
      refine StepU.ok (by decide) ?_
      have d0 : ρ (.tmp 189) = .bool true := hd 0 _ rfl rfl
      exact step_val (v := .bool true) (w' := wz) (by simp [go_sem, execOp, d0]) ⟨trivial, hJ.nop 16 (by decide) (by decide), rfl⟩) ?_
    exact .nil _
  case fin =>
    intro a X6 hsz2 hds hb hJ hv
    obtain ⟨f, hf, hJ⟩ := hJ
    have K6 := hide (unhide HFn f X6 (hf 6 (by decide)) (hf 14 (by decide)) hJ)
    have e5 : a.eval (.tmp 5) = (Value.pointer (some { block := W.heap.size, off := 0 })) := hb (5, _) (List.mem_of_getElem? (i := 2) rfl)
    have e8 : a.eval (.tmp 8) = (Value.slice (some { block := g, off := 0 }) M kb) := hb (8, _) (List.mem_of_getElem? (i := 3) rfl)
    have e7 : a.eval (.tmp 7) = (Value.slice (some { block := g, off := 0 }) M1 kb) := hb (7, _) (List.mem_of_getElem? (i := 4) rfl)
    have e9 : a.eval (.tmp 9) = .bool true := hv 16 (by decide)
    clear hv hb hJ hf f J0 Q1 Q2 HY HFn K3 z0 z1 z2 z3 z4 z5
    obtain ⟨u, rfl⟩ : ∃ u : Nat → Value, a = ⟨#[u 0, u 1, u 2, u 3, u 4, u 5, u 6, u 7, u 8, u 9, u 10, u 11, u 12, u 13, u 14, u 15, u 16, u 17, u 18, u 19, u 20, u 21, u 22, u 23, u 24, u 25, u 26, u 27, u 28, u 29, u 30, u 31, u 32, u 33, u 34, u 35, u 36, u 37, u 38, u 39, u 40, u 41, u 42, u 43, u 44, u 45, u 46, u 47, u 48, u 49, u 50, u 51, u 52, u 53, u 54, u 55, u 56, u 57, u 58, u 59, u 60, u 61, u 62, u 63, u 64, u 65, u 66, u 67, u 68, u 69, u 70, u 71, u 72, u 73, u 74, u 75, u 76, u 77, u 78, u 79, u 80, u 81, u 82, u 83, u 84, u 85, u 86, u 87, u 88, u 89, u 90, u 91, u 92, u 93, u 94, u 95, u 96, u 97, u 98, u 99, u 100, u 101, u 102, u 103, u 104, u 105, u 106, u 107, u 108, u 109, u 110, u 111, u 112, u 113, u 114, u 115, u 116, u 117, u 118, u 119, u 120, u 121, u 122, u 123, u 124, u 125, u 126, u 127, u 128, u 129, u 130, u 131, u 132, u 133, u 134, u 135, u 136, u 137, u 138, u 139, u 140, u 141, u 142, u 143, u 144, u 145, u 146, u 147, u 148, u 149, u 150, u 151, u 152, u 153, u 154, u 155, u 156, u 157, u 158, u 159, u 160, u 161, u 162, u 163, u 164, u 165, u 166, u 167, u 168, u 169, u 170, u 171, u 172, u 173, u 174, u 175, u 176, u 177, u 178, u 179, u 180, u 181, u 182, u 183, u 184, u 185, u 186, u 187, u 188, u 189, u 190, u 191, u 192, u 193, u 194, u 195, u 196, u 197, u 198, u 199, u 200, u 201, u 202, u 203, u 204, u 205, u 206, u 207, u 208, u 209, u 210, u 211, u 212, u 213, u 214, u 215, u 216, u 217, u 218, u 219, u 220, u 221, u 222, u 223, u 224, u 225, u 226, u 227, u 228, u 229, u 230], []⟩ := ⟨fun k => a.eval (.tmp k), frame_fn 231 hsz2 hds⟩
    change u 5 = _ at e5
    change u 8 = _ at e8
    change u 7 = _ at e7
    change u 9 = _ at e9
    rw [e5, e8, e7, e9]
    clear e5 e8 e7 e9 hsz2 hds
    have HTl := hide ((unhide K6).tail (unhide HVd).1 (unhide HVd).2.1 (unhide HVd).2.2 hxl)
    have w5 := (unhide HTl).1
    have HBy := hide (unhide HTl).2
    clear HTl K6
    go_wp2_with fail
    refine (unhide HBy).mono ?_
    rintro e X5 ⟨rfl, v5, v6, D0, hD0, hP0⟩
    have J0 : Hid (∃ D, D.length = M1 ∧ SPb S0 T0 W b r g kb M s2 D X5) := hide ⟨D0, hD0, hP0⟩
    have hi171 : M < M1 := by have := (unhide HVd).2.2; omega
    clear HBy w5 hD0 hP0
    go_wp2
    clear v5 v6
    go_loopw [28] (fun iv wr => ∃ i : Nat, i ≤ M1 ∧ iv = .int .i64 (i : Nat) ∧ Hid (∃ D, D.length = M1 ∧ SPb S0 T0 W b r g kb M s2 D wr)) (fun iv _ => M1 - (RowKit.intOf iv).toNat)
    case atStart => exact ⟨0, Nat.zero_le _, rfl, J0⟩
    case round =>
      obtain ⟨i, hi, rfl, HI⟩ := hrel
      clear J0
      obtain ⟨D, hDl, hPb⟩ := unhide HI
      by_cases hlt : i < M1
      · have hlt' : (i : Int) < (M1 : Int) := by omega
        obtain ⟨⟨u1, c1⟩, f1, hz⟩ := hPb.set (by rw [hDl]; exact (unhide HVd).2.2.symm) (j := i) (by have := (unhide HVd).2.2; omega)
        have FIN : Hid (∃ D, D.length = M1 ∧ SPb S0 T0 W b r g kb M s2 D (wr.setCell ⟨g, i, none⟩ (.int .u8 90))) := hide ⟨_, by rw [List.length_set]; exact hDl, hz 90⟩
        clear hPb hz HI hDl
        go_wp2
        go_roundw
        case rel => exact ⟨i + 1, by omega, by go_num, FIN⟩
        case measure => show M1 - ((i : Int) + 1).toNat < M1 - ((i : Nat) : Int).toNat; omega
      · obtain rfl : i = M1 := by omega
        have hlt' : ¬ (i : Int) < (i : Int) := by omega
        have FIN := hide hPb.fin
        clear hPb HI hDl
        go_wp2
        go_ret
        exact unhide FIN
set_option maxRecDepth 100000 in
set_option maxHeartbeats 8000000 in
theorem step_6 (h1 : NL S0 W b s) (h2 : HL T0 W r s) (hS : ∀ i, S0 i → i < W.heap.size ∧ ¬ T0 i) (hT : ∀ i, T0 i → i < W.heap.size) (x : Stp) (hx : StW W x) (hxl : x.dat.length ≤ 60000) (hfx : x.dat ≠ [] → ∀ i, x.vd.ownBlock = some i → ¬ S0 i ∧ ¬ T0 i) (hk : x.kind = 6) : Calls Try.prog 13 #[.pointer (some ⟨b, 0, none⟩), .pointer (some ⟨r, 0, none⟩), .agg (stC x)] W (StA S0 T0 W b r (doS s x)) := by
  rw [show doS s x = cutS s x.num x.at_ by unfold doS; rw [if_neg (by omega), if_neg (by omega), if_neg (by omega), if_neg (by omega), if_neg (by omega), if_pos hk]]
  have q1 : (x.kind == 1) = false := by rw [hk]; rfl
  have q2 : (x.kind == 2) = false := by rw [hk]; rfl
  have q3 : (x.kind == 3) = false := by rw [hk]; rfl
  have q4 : (x.kind == 4) = false := by rw [hk]; rfl
  have q5 : (x.kind == 5) = false := by rw [hk]; rfl
  have q6 : (x.kind == 6) = true := by simpa using hk
  clear hk
  obtain ⟨X0, a1, k1, X1, X2, g, kb, X3, hX0, bx0, r1, hX2, r2, hKE, hSP⟩ := step_rows h1 h2 hS hT hx hxl hfx
  have K3 := hide (show SK S0 T0 W x b r g kb s s X3 from ⟨_, hSP, hKE⟩)
  obtain ⟨ad, cd, ev⟩ := hx.fd
  obtain ⟨M, hM⟩ : ∃ M, x.dat.length = M := ⟨_, rfl⟩
  obtain ⟨M1, hM1⟩ : ∃ M1, M + 1 = M1 := ⟨_, rfl⟩
  have hcap := hKE.cap
  have hnum := hx.num
  obtain ⟨z0, z1, z2, z3, z4, z5⟩ := (unhide K3).y
  have y5 := bx0.cell 5 x.vd rfl
  clear h1 h2 hS hT hx hfx hKE hSP bx0
  have Q1 := hide (fun (f : Nat → Bool) X (hf : f 5 = false) (J : SJ S0 T0 W x b r g kb s (cutS s x.num x.at_) 5 11 f X) => J.one hf (fun s' K => K.one (fun S hn hlt => Cut_in hn hlt hnum x.at_)))
  have Q2 := hide (fun (f : Nat → Bool) X (hf : f 11 = false) (J : SJ S0 T0 W x b r g kb s (cutS s x.num x.at_) 5 11 f X) => J.two hf (fun s' K => K.two (fun T hl hf => rCut_in hl x.num x.at_)))
  have J0 : Hid (SJ S0 T0 W x b r g kb s (cutS s x.num x.at_) 5 11 (fun _ => false) X3.drew) := hide ((unhide K3).below (Below.refl _ _).drew)
  obtain ⟨s2, hs2⟩ : ∃ s2, cutS s x.num x.at_ = s2 := ⟨_, rfl⟩
  obtain ⟨E, hE⟩ : ∃ E, cutE s x.num x.at_ = E := ⟨_, rfl⟩
  rw [hs2, hE] at Q1 Q2
  rw [hs2] at J0 ⊢
  have HY := hide (fun (f : Nat → Bool) X (J : SJ S0 T0 W x b r g kb s s2 5 11 f X) => J.y)
  have HFn : Hid (∀ f X, f 5 = true → f 11 = true → SJ S0 T0 W x b r g kb s s2 5 11 f X → SK S0 T0 W x b r g kb s2 s2 X) := hide fun f X h7 h15 K => by unfold SJ at K; rw [h7, h15] at K; exact K
  clear hs2 hE
  rw [hM] at ev
  have HVd := hide (And.intro ev (And.intro hM hM1))
  unfold stC at hX0
  unfold stC
  rw [ev] at hX0 y5 z5 r1 ⊢
  rw [hM] at r1 r2 hcap hxl
  rw [hM1] at r2 hcap
  have HR1 := hide r1
  have HR2 := hide r2
  have hM2 : M ≤ M1 := by omega
  have hM3 : M ≤ kb := by omega
  have hM4 : M1 ≤ 60001 := by omega
  clear r1 r2 ev hM
  replace hM1 := hide hM1
  go_enter Try.func13, Try.ntmps13
  go_wp2_with (first | (at_builtin; refine wpList_append_eq rfl _ _ 30 30 rfl _ _ _ _ rfl rfl (unhide HR1) ?_) | (at_builtin; refine wpList_append_eq rfl _ _ 30 30 rfl _ _ _ _ rfl rfl (unhide HR2) ?_))
  go_wp2_with fail
  refine wp_region_any (by kernel_rfl) ?_
  change wpAny _ _ _ _ _ _ _ (World.drew _)
  refine region_ss 231 (fun j => if j = 13 then 9 else 192 + j) ((0, (Value.pointer (some { block := b, off := 0 }))) :: (1, (Value.pointer (some { block := r, off := 0 }))) :: (5, (Value.pointer (some { block := W.heap.size, off := 0 }))) :: (8, (Value.slice (some { block := g, off := 0 }) M kb)) :: (7, (Value.slice (some { block := g, off := 0 }) M1 kb)) :: []) (SJ S0 T0 W x b r g kb s s2 5 11) (valsOf [isV (Value.pointer (some { block := b, off := 0 })), isV (Value.pointer (some { block := W.heap.size, off := 1 })), isV (Value.int .i64 x.num), isV (Value.pointer (some { block := W.heap.size, off := 4 })), isV (Value.int .i64 x.at_), isV (Value.int .i64 E), isV (Value.pointer (some { block := r, off := 0 })), isV (Value.pointer (some { block := W.heap.size, off := 1 })), isV (Value.int .i64 x.num), isV (Value.pointer (some { block := W.heap.size, off := 4 })), isV (Value.int .i64 x.at_), isV (Value.int .i64 E), isV (Value.bool true), isV (Value.bool true)]) (fun _ _ _ => True) [] ?fit ?stable ?none ?steps ?fin _ _ ?sz rfl ?base (unhide J0)
  case fit => kernel_rfl
  case sz => rfl
  case base => intro p hp; repeat (first | (rcases List.mem_cons.1 hp with rfl | hp; · rfl) | cases hp)
  case none =>
    intro j o' ho hdn w1 v
    have hj : j < 14 := (Array.getElem?_eq_some_iff.1 ho).1
    obtain rfl | rfl | rfl | rfl | rfl | rfl | rfl | rfl | rfl | rfl | rfl | rfl | rfl | rfl : j = 0 ∨ j = 1 ∨ j = 2 ∨ j = 3 ∨ j = 4 ∨ j = 5 ∨ j = 6 ∨ j = 7 ∨ j = 8 ∨ j = 9 ∨ j = 10 ∨ j = 11 ∨ j = 12 ∨ j = 13 := by omega
    all_goals (exfalso; have e := Option.some.inj ho; rw [← e] at hdn; cases hdn)
  case stable =>
    intro j i f w1 w2 v hfj hfi hJ hv hG
    refine valsOf_stable (J := fun _ => True) (G := fun _ _ => True) (Stables.all ?_) j w1 w2 v trivial hv trivial
    repeat (refine Stables.same ?_)
    exact Stables.nil
  case steps =>
    refine .cons (fun f ρ wz hf hfe hρ hJ hb hd => by
      refine StepU.ok (by decide) ?_
      have d0 : ρ (.tmp 0) = (Value.pointer (some { block := b, off := 0 })) := hb (0, _) (List.mem_of_getElem? (i := 0) rfl)
      exact step_move (.tmp 0) rfl ⟨trivial, hJ.nop 0 (by decide) (by decide), d0⟩) ?_
    refine .cons (fun f ρ wz hf hfe hρ hJ hb hd => by
      refine StepU.ok (by decide) ?_
      have d0 : ρ (.tmp 5) = (Value.pointer (some { block := W.heap.size, off := 0 })) := hb (5, _) (List.mem_of_getElem? (i := 2) rfl)
      exact step_val (v := (Value.pointer (some { block := W.heap.size, off := 1 }))) (w' := wz) (by simp [go_sem, execOp, d0]) ⟨trivial, hJ.nop 1 (by decide) (by decide), rfl⟩) ?_
    refine .cons (fun f ρ wz hf hfe hρ hJ hb hd => by
      refine StepU.ok (by decide) ?_
      have d0 : ρ (.tmp 193) = (Value.pointer (some { block := W.heap.size, off := 1 })) := hd 0 _ rfl rfl
      have x0 := (unhide HY f _ hJ).2.1
      exact step_val (v := (Value.int .i64 x.num)) (w' := wz) (by simp [go_sem, execOp, d0, x0]) ⟨trivial, hJ.nop 2 (by decide) (by decide), rfl⟩) ?_
    refine .cons (fun f ρ wz hf hfe hρ hJ hb hd => by
      refine StepU.ok (by decide) ?_
      have d0 : ρ (.tmp 5) = (Value.pointer (some { block := W.heap.size, off := 0 })) := hb (5, _) (List.mem_of_getElem? (i := 2) rfl)
      exact step_val (v := (Value.pointer (some { block := W.heap.size, off := 4 }))) (w' := wz) (by simp [go_sem, execOp, d0]) ⟨trivial, hJ.nop 3 (by decide) (by decide), rfl⟩) ?_
    refine .cons (fun f ρ wz hf hfe hρ hJ hb hd => by
      refine StepU.ok (by decide) ?_
      have d0 : ρ (.tmp 195) = (Value.pointer (some { block := W.heap.size, off := 4 })) := hd 0 _ rfl rfl
      have x0 := (unhide HY f _ hJ).2.2.2.2.1
      exact step_val (v := (Value.int .i64 x.at_)) (w' := wz) (by simp [go_sem, execOp, d0, x0]) ⟨trivial, hJ.nop 4 (by decide) (by decide), rfl⟩) ?_
    refine .cons (fun f ρ wz hf hfe hρ hJ hb hd => by
      refine StepU.ok (by decide) ?_
      have d0 : ρ (.tmp 192) = (Value.pointer (some { block := b, off := 0 })) := hd 0 _ rfl rfl
      have d1 : ρ (.tmp 194) = (Value.int .i64 x.num) := hd 1 _ rfl rfl
      have d2 : ρ (.tmp 196) = (Value.int .i64 x.at_) := hd 2 _ rfl rfl
      refine step_func 23 _ _ #[.pointer (some { block := b, off := 0 }), .int .i64 x.num, .int .i64 x.at_] hρ rfl (enters_of Try.func23 (by kernel_rfl) rfl) (by simp [d0, d1, d2]) ?_
      refine (unhide Q1 f wz (hf 5 (.inl rfl)) hJ).mono ?_
      rintro e W' ⟨rfl, K⟩
      exact ⟨_, rfl, trivial, K, rfl⟩) ?_
    refine .cons (fun f ρ wz hf hfe hρ hJ hb hd => by
      refine StepU.ok (by decide) ?_
      have d0 : ρ (.tmp 1) = (Value.pointer (some { block := r, off := 0 })) := hb (1, _) (List.mem_of_getElem? (i := 1) rfl)
      exact step_move (.tmp 1) rfl ⟨trivial, hJ.nop 6 (by decide) (by decide), d0⟩) ?_
    refine .cons (fun f ρ wz hf hfe hρ hJ hb hd => by
      refine StepU.ok (by decide) ?_
      have d0 : ρ (.tmp 5) = (Value.pointer (some { block := W.heap.size, off := 0 })) := hb (5, _) (List.mem_of_getElem? (i := 2) rfl)
      exact step_val (v := (Value.pointer (some { block := W.heap.size, off := 1 }))) (w' := wz) (by simp [go_sem, execOp, d0]) ⟨trivial, hJ.nop 7 (by decide) (by decide), rfl⟩) ?_
    refine .cons (fun f ρ wz hf hfe hρ hJ hb hd => by
      refine StepU.ok (by decide) ?_
      have d0 : ρ (.tmp 199) = (Value.pointer (some { block := W.heap.size, off := 1 })) := hd 0 _ rfl rfl
      have x0 := (unhide HY f _ hJ).2.1
      exact step_val (v := (Value.int .i64 x.num)) (w' := wz) (by simp [go_sem, execOp, d0, x0]) ⟨trivial, hJ.nop 8 (by decide) (by decide), rfl⟩) ?_
    refine .cons (fun f ρ wz hf hfe hρ hJ hb hd => by
      refine StepU.ok (by decide) ?_
      have d0 : ρ (.tmp 5) = (Value.pointer (some { block := W.heap.size, off := 0 })) := hb (5, _) (List.mem_of_getElem? (i := 2) rfl)
      exact step_val (v := (Value.pointer (some { block := W.heap.size, off := 4 }))) (w' := wz) (by simp [go_sem, execOp, d0]) ⟨trivial, hJ.nop 9 (by decide) (by decide), rfl⟩) ?_
    refine .cons (fun f ρ wz hf hfe hρ hJ hb hd => by
      refine StepU.ok (by decide) ?_
      have d0 : ρ (.tmp 201) = (Value.pointer (some { block := W.heap.size, off := 4 })) := hd 0 _ rfl rfl
      have x0 := (unhide HY f _ hJ).2.2.2.2.1
      exact step_val (v := (Value.int .i64 x.at_)) (w' := wz) (by simp [go_sem, execOp, d0, x0]) ⟨trivial, hJ.nop 10 (by decide) (by decide), rfl⟩) ?_
    refine .cons (fun f ρ wz hf hfe hρ hJ hb hd => by
      refine StepU.ok (by decide) ?_
      have d0 : ρ (.tmp 198) = (Value.pointer (some { block := r, off := 0 })) := hd 0 _ rfl rfl
      have d1 : ρ (.tmp 200) = (Value.int .i64 x.num) := hd 1 _ rfl rfl
      have d2 : ρ (.tmp 202) = (Value.int .i64 x.at_) := hd 2 _ rfl rfl
      refine step_func 32 _ _ #[.pointer (some { block := r, off := 0 }), .int .i64 x.num, .int .i64 x.at_] hρ rfl (enters_of Try.func32 (by kernel_rfl) rfl) (by simp [d0, d1, d2]) ?_
      refine (unhide Q2 f wz (hf 11 (.inl rfl)) hJ).mono ?_
      rintro e W' ⟨rfl, K⟩
      exact ⟨_, rfl, trivial, K, rfl⟩) ?_
    refine .cons (fun f ρ wz hf hfe hρ hJ hb hd => by
      refine StepU.ok (by decide) ?_
      have d0 : ρ (.tmp 197) = (Value.int .i64 E) := hd 0 _ rfl rfl
      have d1 : ρ (.tmp 203) = (Value.int .i64 E) := hd 1 _ rfl rfl
      exact step_val (v := .bool true) (w' := wz) (by simp [go_sem, execOp, d0, d1]) ⟨trivial, hJ.nop 12 (by decide) (by decide), rfl⟩) ?_
    refine .cons (fun f ρ wz hf hfe hρ hJ hb hd => by
      refine StepU.ok (by decide) ?_
      have d0 : ρ (.tmp 204) = .bool true := hd 0 _ rfl rfl
      exact step_val (v := .bool true) (w' := wz) (by simp [go_sem, execOp, d0]) ⟨trivial, hJ.nop 13 (by decide) (by decide), rfl⟩) ?_
    exact .nil _
  case fin =>
    intro a X6 hsz2 hds hb hJ hv
    obtain ⟨f, hf, hJ⟩ := hJ
    have K6 := hide (unhide HFn f X6 (hf 5 (by decide)) (hf 11 (by decide)) hJ)
    have e5 : a.eval (.tmp 5) = (Value.pointer (some { block := W.heap.size, off := 0 })) := hb (5, _) (List.mem_of_getElem? (i := 2) rfl)
    have e8 : a.eval (.tmp 8) = (Value.slice (some { block := g, off := 0 }) M kb) := hb (8, _) (List.mem_of_getElem? (i := 3) rfl)
    have e7 : a.eval (.tmp 7) = (Value.slice (some { block := g, off := 0 }) M1 kb) := hb (7, _) (List.mem_of_getElem? (i := 4) rfl)
    have e9 : a.eval (.tmp 9) = .bool true := hv 13 (by decide)
    clear hv hb hJ hf f J0 Q1 Q2 HY HFn K3 z0 z1 z2 z3 z4 z5
    obtain ⟨u, rfl⟩ : ∃ u : Nat → Value, a = ⟨#[u 0, u 1, u 2, u 3, u 4, u 5, u 6, u 7, u 8, u 9, u 10, u 11, u 12, u 13, u 14, u 15, u 16, u 17, u 18, u 19, u 20, u 21, u 22, u 23, u 24, u 25, u 26, u 27, u 28, u 29, u 30, u 31, u 32, u 33, u 34, u 35, u 36, u 37, u 38, u 39, u 40, u 41, u 42, u 43, u 44, u 45, u 46, u 47, u 48, u 49, u 50, u 51, u 52, u 53, u 54, u 55, u 56, u 57, u 58, u 59, u 60, u 61, u 62, u 63, u 64, u 65, u 66, u 67, u 68, u 69, u 70, u 71, u 72, u 73, u 74, u 75, u 76, u 77, u 78, u 79, u 80, u 81, u 82, u 83, u 84, u 85, u 86, u 87, u 88, u 89, u 90, u 91, u 92, u 93, u 94, u 95, u 96, u 97, u 98, u 99, u 100, u 101, u 102, u 103, u 104, u 105, u 106, u 107, u 108, u 109, u 110, u 111, u 112, u 113, u 114, u 115, u 116, u 117, u 118, u 119, u 120, u 121, u 122, u 123, u 124, u 125, u 126, u 127, u 128, u 129, u 130, u 131, u 132, u 133, u 134, u 135, u 136, u 137, u 138, u 139, u 140, u 141, u 142, u 143, u 144, u 145, u 146, u 147, u 148, u 149, u 150, u 151, u 152, u 153, u 154, u 155, u 156, u 157, u 158, u 159, u 160, u 161, u 162, u 163, u 164, u 165, u 166, u 167, u 168, u 169, u 170, u 171, u 172, u 173, u 174, u 175, u 176, u 177, u 178, u 179, u 180, u 181, u 182, u 183, u 184, u 185, u 186, u 187, u 188, u 189, u 190, u 191, u 192, u 193, u 194, u 195, u 196, u 197, u 198, u 199, u 200, u 201, u 202, u 203, u 204, u 205, u 206, u 207, u 208, u 209, u 210, u 211, u 212, u 213, u 214, u 215, u 216, u 217, u 218, u 219, u 220, u 221, u 222, u 223, u 224, u 225, u 226, u 227, u 228, u 229, u 230], []⟩ := ⟨fun k => a.eval (.tmp k), frame_fn 231 hsz2 hds⟩
    change u 5 = _ at e5
    change u 8 = _ at e8
    change u 7 = _ at e7
    change u 9 = _ at e9
    rw [e5, e8, e7, e9]
    clear e5 e8 e7 e9 hsz2 hds
    have HTl := hide ((unhide K6).tail (unhide HVd).1 (unhide HVd).2.1 (unhide HVd).2.2 hxl)
    have w5 := (unhide HTl).1
    have HBy := hide (unhide HTl).2
    clear HTl K6
    go_wp2_with fail
    refine (unhide HBy).mono ?_
    rintro e X5 ⟨rfl, v5, v6, D0, hD0, hP0⟩
    have J0 : Hid (∃ D, D.length = M1 ∧ SPb S0 T0 W b r g kb M s2 D X5) := hide ⟨D0, hD0, hP0⟩
    have hi171 : M < M1 := by have := (unhide HVd).2.2; omega
    clear HBy w5 hD0 hP0
    go_wp2
    clear v5 v6
    go_loopw [28] (fun iv wr => ∃ i : Nat, i ≤ M1 ∧ iv = .int .i64 (i : Nat) ∧ Hid (∃ D, D.length = M1 ∧ SPb S0 T0 W b r g kb M s2 D wr)) (fun iv _ => M1 - (RowKit.intOf iv).toNat)
    case atStart => exact ⟨0, Nat.zero_le _, rfl, J0⟩
    case round =>
      obtain ⟨i, hi, rfl, HI⟩ := hrel
      clear J0
      obtain ⟨D, hDl, hPb⟩ := unhide HI
      by_cases hlt : i < M1
      · have hlt' : (i : Int) < (M1 : Int) := by omega
        obtain ⟨⟨u1, c1⟩, f1, hz⟩ := hPb.set (by rw [hDl]; exact (unhide HVd).2.2.symm) (j := i) (by have := (unhide HVd).2.2; omega)
        have FIN : Hid (∃ D, D.length = M1 ∧ SPb S0 T0 W b r g kb M s2 D (wr.setCell ⟨g, i, none⟩ (.int .u8 90))) := hide ⟨_, by rw [List.length_set]; exact hDl, hz 90⟩
        clear hPb hz HI hDl
        go_wp2
        go_roundw
        case rel => exact ⟨i + 1, by omega, by go_num, FIN⟩
        case measure => show M1 - ((i : Int) + 1).toNat < M1 - ((i : Nat) : Int).toNat; omega
      · obtain rfl : i = M1 := by omega
        have hlt' : ¬ (i : Int) < (i : Int) := by omega
        have FIN := hide hPb.fin
        clear hPb HI hDl
        go_wp2
        go_ret
        exact unhide FIN

end Go.Proofs.Yteomalmflebkhaa
