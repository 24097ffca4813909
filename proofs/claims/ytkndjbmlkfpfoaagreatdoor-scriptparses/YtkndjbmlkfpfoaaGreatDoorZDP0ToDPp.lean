/-
  The document's field: a step with a word in the place of a field.
-/
import Derived.Test.YtkndjbmlkfpfoaaGreatDoorZTOToTQ
import Derived.Test.YtkndjbmlkfpfoaaGreatDoorZDNaToDNb
import Derived.Test.YtkndjbmlkfpfoaaGreatDoorZTR0

set_option linter.unusedSimpArgs false
set_option linter.unusedVariables false
namespace Go.Proofs.YtkndjbmlkfpfoaaGreatDoor
open Go.RowKit Go.Lib

/-- a field's letter -/
def lfF (f : Nat) : Nat := [115, 112, 97, 110, 0, 116, 100].getD f 0
/-- what field answers -/
def FdR (N : Nat) (W : World) (s : Sp) (dv bv : Value) (r : Option (Sp × Nat)) (e : Ending) (W' : World) : Prop :=
  Below W.heap.size W W' ∧ match r with
  | some (s', _) => ∃ (a2 : Option Addr) (n2 c2 : Nat), e = .returned (.tuple #[.agg (spC s' dv (.slice a2 n2 c2)), .bool true]) ∧ OwB W' N (.slice a2 n2 c2) s'.data
  | none => e = .returned (.tuple #[.agg (spC s dv bv), .bool false]) ∧ OwB W' N bv s.data
theorem spC_one (s : Sp) (a1 : Option Addr) (n1 c1 : Nat) (a2 : Option Addr) (n2 c2 : Nat) : (spC s (.slice a1 n1 c1) (.slice a2 n2 c2)).all (·.oneCell') = true := by simp [spC, Value.oneCell']
/-- the three boxes of a call of field -/
theorem fd_boxes (W : World) (s : Sp) (dv bv : Value) (x : It) {X : World} (hX : ((W.alloc (.cells (spC s dv bv) 40)).alloc (.cells (encW x).toArray 73)).alloc (.cells zSt 40) = X) :
    Below W.heap.size W X ∧ Bq X W.heap.size 40 (spC s dv bv) ∧ Bq X (W.heap.size + 1) 73 (encW x).toArray ∧ Bq X (W.heap.size + 2) 40 zSt := by
  subst hX
  refine ⟨ballc (ballc (ballc (Below.refl _ _) _) _) _, (Bq.new W _ _).keep (ballc (ballc (Below.refl _ _) _) _) (Bq.new W _ _).lt, ?_, ?_⟩
  · have h := Bq.new (W.alloc (.cells (spC s dv bv) 40)) 73 (encW x).toArray
    rw [World.size_alloc] at h
    exact h.keep (ballc (Below.refl _ _) _) h.lt
  · have h := Bq.new ((W.alloc (.cells (spC s dv bv) 40)).alloc (.cells (encW x).toArray 73)) 40 zSt
    rw [World.size_alloc, World.size_alloc] at h
    exact h

set_option maxRecDepth 100000 in
set_option maxHeartbeats 4000000 in
theorem field0b {W : World} (N : Nat) (s : Sp) (a1 : Option Addr) (n1 c1 : Nat) (a2 : Option Addr) (n2 c2 : Nat) (x : It) (hN : N ≤ W.heap.size) (ho : OwB W N (.slice a2 n2 c2) s.data) (hk : x.w.k ≠ 3) (ht : x.w.t.size ≤ 1000000) :
    Calls Tryz.prog 65 #[.agg (spC s (.slice a1 n1 c1) (.slice a2 n2 c2)), .int .u8 115, .agg (encW x).toArray] W (FdR N W s (.slice a1 n1 c1) (.slice a2 n2 c2) (tkF s 0 [x])) := by
  obtain ⟨X, hX⟩ : ∃ X, ((W.alloc (.cells (spC s (.slice a1 n1 c1) (.slice a2 n2 c2)) 40)).alloc (.cells (encW x).toArray 73)).alloc (.cells zSt 40) = X := ⟨_, rfl⟩
  obtain ⟨hbX, q0, q1, q2⟩ := fd_boxes W s _ _ x hX
  have w0 := q1.cell 0 (.int .i64 (x.w.k : Int)) rfl
  have w1 := q1.cell 1 (.string x.w.t) rfl
  have w2 := q1.cell 2 (.int .i64 x.w.n) rfl
  have kx : ((x.w.k : Int) != 3) = true := by rw [bne_iff_ne]; omega
  have hno : tkF s 0 [x] = none := by simp [tkF, hk]
  rw [hno]
  obtain ⟨Z, hZ⟩ : ∃ Z, X = Z := ⟨_, rfl⟩
  have z0 := q0
  have z2 := q2
  rw [hZ] at z0 z2
  have kS := kp_setRow Z (W.heap.size + 2) (spC s (.slice a1 n1 c1) (.slice a2 n2 c2))
  have HG := hide (show Bq Z W.heap.size 40 (spC s (.slice a1 n1 c1) (.slice a2 n2 c2)) ∧ Bq Z (W.heap.size + 2) 40 zSt from ⟨z0, z2⟩)
  have HO := hide (show (spC s (.slice a1 n1 c1) (.slice a2 n2 c2)).all (·.oneCell') = true from spC_one _ _ _ _ _ _ _)
  have HZ := hide (show FdR N W s (.slice a1 n1 c1) (.slice a2 n2 c2) none (.returned (.tuple #[.agg (spC s (.slice a1 n1 c1) (.slice a2 n2 c2)), .bool false])) (Z.setRow (W.heap.size + 2) (spC s (.slice a1 n1 c1) (.slice a2 n2 c2))) from ⟨by rw [← hZ] at kS ⊢; exact kS.below hbX (fun i e => by omega), rfl, by rw [← hZ] at kS ⊢; exact ownsF_kp (ownsF_kp ho (Kp.of_below (N := fun _ => False) hbX) (fun _ _ e => e)) kS (fun i hi e => ownsF_ty (ownsF_kp ho (Kp.of_below (N := fun _ => False) hbX) (fun _ _ e => e)) q2 (by decide) (by rw [hi, e]))⟩)
  subst hZ
  unfold encW zSt spC at hX
  unfold encW spC
  unfold spC at HZ HG HO
  clear q0 q1 q2 z0 z2 kS hbX ho ht hk hno
  go_enter Tryz.func65, Tryz.ntmps65
  go_wp2_with (first | refine wpl_loadS rfl _ rfl rfl (unhide HG).1 rfl ?_ | refine wpl_storeS (cs := #[.int .i64 s.kind, .int .i64 s.site, .int .i64 s.peer, .int .i64 s.unit, .int .i64 s.at_, .int .i64 s.n, .string s.text, .slice a1 n1 c1, .slice a2 n2 c2]) rfl _ _ rfl rfl rfl (unhide HG).2 rfl rfl (unhide HO) ?_)
  refine bodyPost_ret (results_ctS rfl _ _ (W.heap.size + 2) _ (#[.int .i64 s.kind, .int .i64 s.site, .int .i64 s.peer, .int .i64 s.unit, .int .i64 s.at_, .int .i64 s.n, .string s.text, .slice a1 n1 c1, .slice a2 n2 c2]) _ _ rfl (setRow_heap _ _ _ (#[.int .i64 s.kind, .int .i64 s.site, .int .i64 s.peer, .int .i64 s.unit, .int .i64 s.at_, .int .i64 s.n, .string s.text, .slice a1 n1 c1, .slice a2 n2 c2]) _ _ (unhide HG).2) Tryz.underlying40 rfl sizeSt) rfl ?_
  exact unhide HZ

set_option maxRecDepth 100000 in
set_option maxHeartbeats 4000000 in
theorem field1b {W : World} (N : Nat) (s : Sp) (a1 : Option Addr) (n1 c1 : Nat) (a2 : Option Addr) (n2 c2 : Nat) (x : It) (hN : N ≤ W.heap.size) (ho : OwB W N (.slice a2 n2 c2) s.data) (hk : x.w.k ≠ 3) (ht : x.w.t.size ≤ 1000000) :
    Calls Tryz.prog 65 #[.agg (spC s (.slice a1 n1 c1) (.slice a2 n2 c2)), .int .u8 112, .agg (encW x).toArray] W (FdR N W s (.slice a1 n1 c1) (.slice a2 n2 c2) (tkF s 1 [x])) := by
  obtain ⟨X, hX⟩ : ∃ X, ((W.alloc (.cells (spC s (.slice a1 n1 c1) (.slice a2 n2 c2)) 40)).alloc (.cells (encW x).toArray 73)).alloc (.cells zSt 40) = X := ⟨_, rfl⟩
  obtain ⟨hbX, q0, q1, q2⟩ := fd_boxes W s _ _ x hX
  have w0 := q1.cell 0 (.int .i64 (x.w.k : Int)) rfl
  have w1 := q1.cell 1 (.string x.w.t) rfl
  have w2 := q1.cell 2 (.int .i64 x.w.n) rfl
  have kx : ((x.w.k : Int) != 3) = true := by rw [bne_iff_ne]; omega
  have hno : tkF s 1 [x] = none := by simp [tkF, hk]
  rw [hno]
  obtain ⟨Z, hZ⟩ : ∃ Z, X = Z := ⟨_, rfl⟩
  have z0 := q0
  have z2 := q2
  rw [hZ] at z0 z2
  have kS := kp_setRow Z (W.heap.size + 2) (spC s (.slice a1 n1 c1) (.slice a2 n2 c2))
  have HG := hide (show Bq Z W.heap.size 40 (spC s (.slice a1 n1 c1) (.slice a2 n2 c2)) ∧ Bq Z (W.heap.size + 2) 40 zSt from ⟨z0, z2⟩)
  have HO := hide (show (spC s (.slice a1 n1 c1) (.slice a2 n2 c2)).all (·.oneCell') = true from spC_one _ _ _ _ _ _ _)
  have HZ := hide (show FdR N W s (.slice a1 n1 c1) (.slice a2 n2 c2) none (.returned (.tuple #[.agg (spC s (.slice a1 n1 c1) (.slice a2 n2 c2)), .bool false])) (Z.setRow (W.heap.size + 2) (spC s (.slice a1 n1 c1) (.slice a2 n2 c2))) from ⟨by rw [← hZ] at kS ⊢; exact kS.below hbX (fun i e => by omega), rfl, by rw [← hZ] at kS ⊢; exact ownsF_kp (ownsF_kp ho (Kp.of_below (N := fun _ => False) hbX) (fun _ _ e => e)) kS (fun i hi e => ownsF_ty (ownsF_kp ho (Kp.of_below (N := fun _ => False) hbX) (fun _ _ e => e)) q2 (by decide) (by rw [hi, e]))⟩)
  subst hZ
  unfold encW zSt spC at hX
  unfold encW spC
  unfold spC at HZ HG HO
  clear q0 q1 q2 z0 z2 kS hbX ho ht hk hno
  go_enter Tryz.func65, Tryz.ntmps65
  go_wp2_with (first | refine wpl_loadS rfl _ rfl rfl (unhide HG).1 rfl ?_ | refine wpl_storeS (cs := #[.int .i64 s.kind, .int .i64 s.site, .int .i64 s.peer, .int .i64 s.unit, .int .i64 s.at_, .int .i64 s.n, .string s.text, .slice a1 n1 c1, .slice a2 n2 c2]) rfl _ _ rfl rfl rfl (unhide HG).2 rfl rfl (unhide HO) ?_)
  refine bodyPost_ret (results_ctS rfl _ _ (W.heap.size + 2) _ (#[.int .i64 s.kind, .int .i64 s.site, .int .i64 s.peer, .int .i64 s.unit, .int .i64 s.at_, .int .i64 s.n, .string s.text, .slice a1 n1 c1, .slice a2 n2 c2]) _ _ rfl (setRow_heap _ _ _ (#[.int .i64 s.kind, .int .i64 s.site, .int .i64 s.peer, .int .i64 s.unit, .int .i64 s.at_, .int .i64 s.n, .string s.text, .slice a1 n1 c1, .slice a2 n2 c2]) _ _ (unhide HG).2) Tryz.underlying40 rfl sizeSt) rfl ?_
  exact unhide HZ

set_option maxRecDepth 100000 in
set_option maxHeartbeats 4000000 in
theorem field2b {W : World} (N : Nat) (s : Sp) (a1 : Option Addr) (n1 c1 : Nat) (a2 : Option Addr) (n2 c2 : Nat) (x : It) (hN : N ≤ W.heap.size) (ho : OwB W N (.slice a2 n2 c2) s.data) (hk : x.w.k ≠ 3) (ht : x.w.t.size ≤ 1000000) :
    Calls Tryz.prog 65 #[.agg (spC s (.slice a1 n1 c1) (.slice a2 n2 c2)), .int .u8 97, .agg (encW x).toArray] W (FdR N W s (.slice a1 n1 c1) (.slice a2 n2 c2) (tkF s 2 [x])) := by
  obtain ⟨X, hX⟩ : ∃ X, ((W.alloc (.cells (spC s (.slice a1 n1 c1) (.slice a2 n2 c2)) 40)).alloc (.cells (encW x).toArray 73)).alloc (.cells zSt 40) = X := ⟨_, rfl⟩
  obtain ⟨hbX, q0, q1, q2⟩ := fd_boxes W s _ _ x hX
  have w0 := q1.cell 0 (.int .i64 (x.w.k : Int)) rfl
  have w1 := q1.cell 1 (.string x.w.t) rfl
  have w2 := q1.cell 2 (.int .i64 x.w.n) rfl
  have kx : ((x.w.k : Int) != 3) = true := by rw [bne_iff_ne]; omega
  have hno : tkF s 2 [x] = none := by simp [tkF, hk]
  rw [hno]
  obtain ⟨Z, hZ⟩ : ∃ Z, X = Z := ⟨_, rfl⟩
  have z0 := q0
  have z2 := q2
  rw [hZ] at z0 z2
  have kS := kp_setRow Z (W.heap.size + 2) (spC s (.slice a1 n1 c1) (.slice a2 n2 c2))
  have HG := hide (show Bq Z W.heap.size 40 (spC s (.slice a1 n1 c1) (.slice a2 n2 c2)) ∧ Bq Z (W.heap.size + 2) 40 zSt from ⟨z0, z2⟩)
  have HO := hide (show (spC s (.slice a1 n1 c1) (.slice a2 n2 c2)).all (·.oneCell') = true from spC_one _ _ _ _ _ _ _)
  have HZ := hide (show FdR N W s (.slice a1 n1 c1) (.slice a2 n2 c2) none (.returned (.tuple #[.agg (spC s (.slice a1 n1 c1) (.slice a2 n2 c2)), .bool false])) (Z.setRow (W.heap.size + 2) (spC s (.slice a1 n1 c1) (.slice a2 n2 c2))) from ⟨by rw [← hZ] at kS ⊢; exact kS.below hbX (fun i e => by omega), rfl, by rw [← hZ] at kS ⊢; exact ownsF_kp (ownsF_kp ho (Kp.of_below (N := fun _ => False) hbX) (fun _ _ e => e)) kS (fun i hi e => ownsF_ty (ownsF_kp ho (Kp.of_below (N := fun _ => False) hbX) (fun _ _ e => e)) q2 (by decide) (by rw [hi, e]))⟩)
  subst hZ
  unfold encW zSt spC at hX
  unfold encW spC
  unfold spC at HZ HG HO
  clear q0 q1 q2 z0 z2 kS hbX ho ht hk hno
  go_enter Tryz.func65, Tryz.ntmps65
  go_wp2_with (first | refine wpl_loadS rfl _ rfl rfl (unhide HG).1 rfl ?_ | refine wpl_storeS (cs := #[.int .i64 s.kind, .int .i64 s.site, .int .i64 s.peer, .int .i64 s.unit, .int .i64 s.at_, .int .i64 s.n, .string s.text, .slice a1 n1 c1, .slice a2 n2 c2]) rfl _ _ rfl rfl rfl (unhide HG).2 rfl rfl (unhide HO) ?_)
  refine bodyPost_ret (results_ctS rfl _ _ (W.heap.size + 2) _ (#[.int .i64 s.kind, .int .i64 s.site, .int .i64 s.peer, .int .i64 s.unit, .int .i64 s.at_, .int .i64 s.n, .string s.text, .slice a1 n1 c1, .slice a2 n2 c2]) _ _ rfl (setRow_heap _ _ _ (#[.int .i64 s.kind, .int .i64 s.site, .int .i64 s.peer, .int .i64 s.unit, .int .i64 s.at_, .int .i64 s.n, .string s.text, .slice a1 n1 c1, .slice a2 n2 c2]) _ _ (unhide HG).2) Tryz.underlying40 rfl sizeSt) rfl ?_
  exact unhide HZ

set_option maxRecDepth 100000 in
set_option maxHeartbeats 4000000 in
theorem field3b {W : World} (N : Nat) (s : Sp) (a1 : Option Addr) (n1 c1 : Nat) (a2 : Option Addr) (n2 c2 : Nat) (x : It) (hN : N ≤ W.heap.size) (ho : OwB W N (.slice a2 n2 c2) s.data) (hk : x.w.k ≠ 3) (ht : x.w.t.size ≤ 1000000) :
    Calls Tryz.prog 65 #[.agg (spC s (.slice a1 n1 c1) (.slice a2 n2 c2)), .int .u8 110, .agg (encW x).toArray] W (FdR N W s (.slice a1 n1 c1) (.slice a2 n2 c2) (tkF s 3 [x])) := by
  obtain ⟨X, hX⟩ : ∃ X, ((W.alloc (.cells (spC s (.slice a1 n1 c1) (.slice a2 n2 c2)) 40)).alloc (.cells (encW x).toArray 73)).alloc (.cells zSt 40) = X := ⟨_, rfl⟩
  obtain ⟨hbX, q0, q1, q2⟩ := fd_boxes W s _ _ x hX
  have w0 := q1.cell 0 (.int .i64 (x.w.k : Int)) rfl
  have w1 := q1.cell 1 (.string x.w.t) rfl
  have w2 := q1.cell 2 (.int .i64 x.w.n) rfl
  have kx : ((x.w.k : Int) != 3) = true := by rw [bne_iff_ne]; omega
  have hno : tkF s 3 [x] = none := by simp [tkF, hk]
  rw [hno]
  obtain ⟨Z, hZ⟩ : ∃ Z, X = Z := ⟨_, rfl⟩
  have z0 := q0
  have z2 := q2
  rw [hZ] at z0 z2
  have kS := kp_setRow Z (W.heap.size + 2) (spC s (.slice a1 n1 c1) (.slice a2 n2 c2))
  have HG := hide (show Bq Z W.heap.size 40 (spC s (.slice a1 n1 c1) (.slice a2 n2 c2)) ∧ Bq Z (W.heap.size + 2) 40 zSt from ⟨z0, z2⟩)
  have HO := hide (show (spC s (.slice a1 n1 c1) (.slice a2 n2 c2)).all (·.oneCell') = true from spC_one _ _ _ _ _ _ _)
  have HZ := hide (show FdR N W s (.slice a1 n1 c1) (.slice a2 n2 c2) none (.returned (.tuple #[.agg (spC s (.slice a1 n1 c1) (.slice a2 n2 c2)), .bool false])) (Z.setRow (W.heap.size + 2) (spC s (.slice a1 n1 c1) (.slice a2 n2 c2))) from ⟨by rw [← hZ] at kS ⊢; exact kS.below hbX (fun i e => by omega), rfl, by rw [← hZ] at kS ⊢; exact ownsF_kp (ownsF_kp ho (Kp.of_below (N := fun _ => False) hbX) (fun _ _ e => e)) kS (fun i hi e => ownsF_ty (ownsF_kp ho (Kp.of_below (N := fun _ => False) hbX) (fun _ _ e => e)) q2 (by decide) (by rw [hi, e]))⟩)
  subst hZ
  unfold encW zSt spC at hX
  unfold encW spC
  unfold spC at HZ HG HO
  clear q0 q1 q2 z0 z2 kS hbX ho ht hk hno
  go_enter Tryz.func65, Tryz.ntmps65
  go_wp2_with (first | refine wpl_loadS rfl _ rfl rfl (unhide HG).1 rfl ?_ | refine wpl_storeS (cs := #[.int .i64 s.kind, .int .i64 s.site, .int .i64 s.peer, .int .i64 s.unit, .int .i64 s.at_, .int .i64 s.n, .string s.text, .slice a1 n1 c1, .slice a2 n2 c2]) rfl _ _ rfl rfl rfl (unhide HG).2 rfl rfl (unhide HO) ?_)
  refine bodyPost_ret (results_ctS rfl _ _ (W.heap.size + 2) _ (#[.int .i64 s.kind, .int .i64 s.site, .int .i64 s.peer, .int .i64 s.unit, .int .i64 s.at_, .int .i64 s.n, .string s.text, .slice a1 n1 c1, .slice a2 n2 c2]) _ _ rfl (setRow_heap _ _ _ (#[.int .i64 s.kind, .int .i64 s.site, .int .i64 s.peer, .int .i64 s.unit, .int .i64 s.at_, .int .i64 s.n, .string s.text, .slice a1 n1 c1, .slice a2 n2 c2]) _ _ (unhide HG).2) Tryz.underlying40 rfl sizeSt) rfl ?_
  exact unhide HZ

set_option maxRecDepth 100000 in
set_option maxHeartbeats 4000000 in
theorem field5b {W : World} (N : Nat) (s : Sp) (a1 : Option Addr) (n1 c1 : Nat) (a2 : Option Addr) (n2 c2 : Nat) (x : It) (hN : N ≤ W.heap.size) (ho : OwB W N (.slice a2 n2 c2) s.data) (hk : x.w.k ≠ 2) (ht : x.w.t.size ≤ 1000000) :
    Calls Tryz.prog 65 #[.agg (spC s (.slice a1 n1 c1) (.slice a2 n2 c2)), .int .u8 116, .agg (encW x).toArray] W (FdR N W s (.slice a1 n1 c1) (.slice a2 n2 c2) (tkF s 5 [x])) := by
  obtain ⟨X, hX⟩ : ∃ X, ((W.alloc (.cells (spC s (.slice a1 n1 c1) (.slice a2 n2 c2)) 40)).alloc (.cells (encW x).toArray 73)).alloc (.cells zSt 40) = X := ⟨_, rfl⟩
  obtain ⟨hbX, q0, q1, q2⟩ := fd_boxes W s _ _ x hX
  have w0 := q1.cell 0 (.int .i64 (x.w.k : Int)) rfl
  have w1 := q1.cell 1 (.string x.w.t) rfl
  have w2 := q1.cell 2 (.int .i64 x.w.n) rfl
  have kx : ((x.w.k : Int) != 2) = true := by rw [bne_iff_ne]; omega
  have hno : tkF s 5 [x] = none := by simp [tkF, hk]
  rw [hno]
  obtain ⟨Z, hZ⟩ : ∃ Z, X = Z := ⟨_, rfl⟩
  have z0 := q0
  have z2 := q2
  rw [hZ] at z0 z2
  have kS := kp_setRow Z (W.heap.size + 2) (spC s (.slice a1 n1 c1) (.slice a2 n2 c2))
  have HG := hide (show Bq Z W.heap.size 40 (spC s (.slice a1 n1 c1) (.slice a2 n2 c2)) ∧ Bq Z (W.heap.size + 2) 40 zSt from ⟨z0, z2⟩)
  have HO := hide (show (spC s (.slice a1 n1 c1) (.slice a2 n2 c2)).all (·.oneCell') = true from spC_one _ _ _ _ _ _ _)
  have HZ := hide (show FdR N W s (.slice a1 n1 c1) (.slice a2 n2 c2) none (.returned (.tuple #[.agg (spC s (.slice a1 n1 c1) (.slice a2 n2 c2)), .bool false])) (Z.setRow (W.heap.size + 2) (spC s (.slice a1 n1 c1) (.slice a2 n2 c2))) from ⟨by rw [← hZ] at kS ⊢; exact kS.below hbX (fun i e => by omega), rfl, by rw [← hZ] at kS ⊢; exact ownsF_kp (ownsF_kp ho (Kp.of_below (N := fun _ => False) hbX) (fun _ _ e => e)) kS (fun i hi e => ownsF_ty (ownsF_kp ho (Kp.of_below (N := fun _ => False) hbX) (fun _ _ e => e)) q2 (by decide) (by rw [hi, e]))⟩)
  subst hZ
  unfold encW zSt spC at hX
  unfold encW spC
  unfold spC at HZ HG HO
  clear q0 q1 q2 z0 z2 kS hbX ho ht hk hno
  go_enter Tryz.func65, Tryz.ntmps65
  go_wp2_with (first | refine wpl_loadS rfl _ rfl rfl (unhide HG).1 rfl ?_ | refine wpl_storeS (cs := #[.int .i64 s.kind, .int .i64 s.site, .int .i64 s.peer, .int .i64 s.unit, .int .i64 s.at_, .int .i64 s.n, .string s.text, .slice a1 n1 c1, .slice a2 n2 c2]) rfl _ _ rfl rfl rfl (unhide HG).2 rfl rfl (unhide HO) ?_)
  refine bodyPost_ret (results_ctS rfl _ _ (W.heap.size + 2) _ (#[.int .i64 s.kind, .int .i64 s.site, .int .i64 s.peer, .int .i64 s.unit, .int .i64 s.at_, .int .i64 s.n, .string s.text, .slice a1 n1 c1, .slice a2 n2 c2]) _ _ rfl (setRow_heap _ _ _ (#[.int .i64 s.kind, .int .i64 s.site, .int .i64 s.peer, .int .i64 s.unit, .int .i64 s.at_, .int .i64 s.n, .string s.text, .slice a1 n1 c1, .slice a2 n2 c2]) _ _ (unhide HG).2) Tryz.underlying40 rfl sizeSt) rfl ?_
  exact unhide HZ

set_option maxRecDepth 100000 in
set_option maxHeartbeats 4000000 in
theorem field6b {W : World} (N : Nat) (s : Sp) (a1 : Option Addr) (n1 c1 : Nat) (a2 : Option Addr) (n2 c2 : Nat) (x : It) (hN : N ≤ W.heap.size) (ho : OwB W N (.slice a2 n2 c2) s.data) (hk : x.w.k ≠ 2) (ht : x.w.t.size ≤ 1000000) :
    Calls Tryz.prog 65 #[.agg (spC s (.slice a1 n1 c1) (.slice a2 n2 c2)), .int .u8 100, .agg (encW x).toArray] W (FdR N W s (.slice a1 n1 c1) (.slice a2 n2 c2) (tkF s 6 [x])) := by
  obtain ⟨X, hX⟩ : ∃ X, ((W.alloc (.cells (spC s (.slice a1 n1 c1) (.slice a2 n2 c2)) 40)).alloc (.cells (encW x).toArray 73)).alloc (.cells zSt 40) = X := ⟨_, rfl⟩
  obtain ⟨hbX, q0, q1, q2⟩ := fd_boxes W s _ _ x hX
  have w0 := q1.cell 0 (.int .i64 (x.w.k : Int)) rfl
  have w1 := q1.cell 1 (.string x.w.t) rfl
  have w2 := q1.cell 2 (.int .i64 x.w.n) rfl
  have kx : ((x.w.k : Int) != 2) = true := by rw [bne_iff_ne]; omega
  have hno : tkF s 6 [x] = none := by simp [tkF, hk]
  rw [hno]
  obtain ⟨Z, hZ⟩ : ∃ Z, X = Z := ⟨_, rfl⟩
  have z0 := q0
  have z2 := q2
  rw [hZ] at z0 z2
  have kS := kp_setRow Z (W.heap.size + 2) (spC s (.slice a1 n1 c1) (.slice a2 n2 c2))
  have HG := hide (show Bq Z W.heap.size 40 (spC s (.slice a1 n1 c1) (.slice a2 n2 c2)) ∧ Bq Z (W.heap.size + 2) 40 zSt from ⟨z0, z2⟩)
  have HO := hide (show (spC s (.slice a1 n1 c1) (.slice a2 n2 c2)).all (·.oneCell') = true from spC_one _ _ _ _ _ _ _)
  have HZ := hide (show FdR N W s (.slice a1 n1 c1) (.slice a2 n2 c2) none (.returned (.tuple #[.agg (spC s (.slice a1 n1 c1) (.slice a2 n2 c2)), .bool false])) (Z.setRow (W.heap.size + 2) (spC s (.slice a1 n1 c1) (.slice a2 n2 c2))) from ⟨by rw [← hZ] at kS ⊢; exact kS.below hbX (fun i e => by omega), rfl, by rw [← hZ] at kS ⊢; exact ownsF_kp (ownsF_kp ho (Kp.of_below (N := fun _ => False) hbX) (fun _ _ e => e)) kS (fun i hi e => ownsF_ty (ownsF_kp ho (Kp.of_below (N := fun _ => False) hbX) (fun _ _ e => e)) q2 (by decide) (by rw [hi, e]))⟩)
  subst hZ
  unfold encW zSt spC at hX
  unfold encW spC
  unfold spC at HZ HG HO
  clear q0 q1 q2 z0 z2 kS hbX ho ht hk hno
  go_enter Tryz.func65, Tryz.ntmps65
  go_wp2_with (first | refine wpl_loadS rfl _ rfl rfl (unhide HG).1 rfl ?_ | refine wpl_storeS (cs := #[.int .i64 s.kind, .int .i64 s.site, .int .i64 s.peer, .int .i64 s.unit, .int .i64 s.at_, .int .i64 s.n, .string s.text, .slice a1 n1 c1, .slice a2 n2 c2]) rfl _ _ rfl rfl rfl (unhide HG).2 rfl rfl (unhide HO) ?_)
  refine bodyPost_ret (results_ctS rfl _ _ (W.heap.size + 2) _ (#[.int .i64 s.kind, .int .i64 s.site, .int .i64 s.peer, .int .i64 s.unit, .int .i64 s.at_, .int .i64 s.n, .string s.text, .slice a1 n1 c1, .slice a2 n2 c2]) _ _ rfl (setRow_heap _ _ _ (#[.int .i64 s.kind, .int .i64 s.site, .int .i64 s.peer, .int .i64 s.unit, .int .i64 s.at_, .int .i64 s.n, .string s.text, .slice a1 n1 c1, .slice a2 n2 c2]) _ _ (unhide HG).2) Tryz.underlying40 rfl sizeSt) rfl ?_
  exact unhide HZ

set_option maxRecDepth 100000 in
set_option maxHeartbeats 4000000 in
theorem field0g {W : World} (N : Nat) (s : Sp) (a1 : Option Addr) (n1 c1 : Nat) (a2 : Option Addr) (n2 c2 : Nat) (x : It) (hN : N ≤ W.heap.size) (ho : OwB W N (.slice a2 n2 c2) s.data) (hk : x.w.k = 3) (ht : x.w.t.size ≤ 1000000) :
    Calls Tryz.prog 65 #[.agg (spC s (.slice a1 n1 c1) (.slice a2 n2 c2)), .int .u8 115, .agg (encW x).toArray] W (FdR N W s (.slice a1 n1 c1) (.slice a2 n2 c2) (tkF s 0 [x])) := by
  obtain ⟨X, hX⟩ : ∃ X, ((W.alloc (.cells (spC s (.slice a1 n1 c1) (.slice a2 n2 c2)) 40)).alloc (.cells (encW x).toArray 73)).alloc (.cells zSt 40) = X := ⟨_, rfl⟩
  obtain ⟨hbX, q0, q1, q2⟩ := fd_boxes W s _ _ x hX
  have w0 := q1.cell 0 (.int .i64 (x.w.k : Int)) rfl
  have w1 := q1.cell 1 (.string x.w.t) rfl
  have w2 := q1.cell 2 (.int .i64 x.w.n) rfl
  have kx : ((x.w.k : Int) != 3) = false := by rw [hk]; rfl
  have hyes : tkF s 0 [x] = some (s.num 0 x.w.n, 1) := by simp [tkF, hk]
  rw [hyes]
  have o0 := q0.cell 1 (.int .i64 s.site) rfl
  have f0 := q0.frozen 1
  have l0 := q0.lt
  obtain ⟨Z, hZ⟩ : ∃ Z, X.setCell ⟨W.heap.size, 1, none⟩ (.int .i64 x.w.n) = Z := ⟨_, rfl⟩
  have kT := Kp.set (N := fun i => i = W.heap.size) X ⟨W.heap.size, 1, none⟩ (.int .i64 x.w.n) rfl
  rw [hZ] at kT
  have z0 : Bq Z W.heap.size 40 (spC (s.num 0 x.w.n) (.slice a1 n1 c1) (.slice a2 n2 c2)) := by
    have h := q0.sets 1 (.int .i64 x.w.n)
    rw [hZ] at h
    exact h
  have z2 : Bq Z (W.heap.size + 2) 40 zSt := q2.kp kT (by omega)
  have oX := ownsF_kp ho (Kp.of_below (N := fun _ => False) hbX) (fun _ _ e => e)
  have oZ : OwB Z N (.slice a2 n2 c2) s.data := ownsF_kp oX kT (fun i hi e => ownsF_ty oX q0 (by decide) (by rw [hi, e]))
  have kS := kp_setRow Z (W.heap.size + 2) (spC (s.num 0 x.w.n) (.slice a1 n1 c1) (.slice a2 n2 c2))
  have HG := hide (show Bq Z W.heap.size 40 (spC (s.num 0 x.w.n) (.slice a1 n1 c1) (.slice a2 n2 c2)) ∧ Bq Z (W.heap.size + 2) 40 zSt from ⟨z0, z2⟩)
  have HO := hide (show (spC (s.num 0 x.w.n) (.slice a1 n1 c1) (.slice a2 n2 c2)).all (·.oneCell') = true from spC_one _ _ _ _ _ _ _)
  have HZ := hide (show FdR N W s (.slice a1 n1 c1) (.slice a2 n2 c2) (some (s.num 0 x.w.n, 1)) (.returned (.tuple #[.agg (spC (s.num 0 x.w.n) (.slice a1 n1 c1) (.slice a2 n2 c2)), .bool true])) (Z.setRow (W.heap.size + 2) (spC (s.num 0 x.w.n) (.slice a1 n1 c1) (.slice a2 n2 c2))) from ⟨kS.below (kT.below hbX (fun i e => by omega)) (fun i e => by omega), _, _, _, rfl, ownsF_kp oZ kS (fun i hi e => ownsF_ty oZ z2 (by decide) (by rw [hi, e]))⟩)
  have u2 := (z2.cell 0 _ rfl)
  unfold encW zSt spC at hX
  unfold encW spC
  unfold spC at HZ HG HO
  simp only [Sp.num, Sp.txt] at HG HO HZ
  clear q0 q1 q2 z0 z2 kS hbX ho ht hk hyes kT oX oZ u2
  go_enter Tryz.func65, Tryz.ntmps65
  go_wp2_with (first | refine wpl_loadS rfl _ rfl rfl (unhide HG).1 rfl ?_ | refine wpl_storeS (cs := #[.int .i64 s.kind, .int .i64 x.w.n, .int .i64 s.peer, .int .i64 s.unit, .int .i64 s.at_, .int .i64 s.n, .string s.text, .slice a1 n1 c1, .slice a2 n2 c2]) rfl _ _ rfl rfl rfl (unhide HG).2 rfl rfl (unhide HO) ?_)
  refine bodyPost_ret (results_ctS rfl _ _ (W.heap.size + 2) _ (#[.int .i64 s.kind, .int .i64 x.w.n, .int .i64 s.peer, .int .i64 s.unit, .int .i64 s.at_, .int .i64 s.n, .string s.text, .slice a1 n1 c1, .slice a2 n2 c2]) _ _ rfl (setRow_heap _ _ _ (#[.int .i64 s.kind, .int .i64 x.w.n, .int .i64 s.peer, .int .i64 s.unit, .int .i64 s.at_, .int .i64 s.n, .string s.text, .slice a1 n1 c1, .slice a2 n2 c2]) _ _ (unhide HG).2) Tryz.underlying40 rfl sizeSt) rfl ?_
  exact unhide HZ

set_option maxRecDepth 100000 in
set_option maxHeartbeats 4000000 in
theorem field1g {W : World} (N : Nat) (s : Sp) (a1 : Option Addr) (n1 c1 : Nat) (a2 : Option Addr) (n2 c2 : Nat) (x : It) (hN : N ≤ W.heap.size) (ho : OwB W N (.slice a2 n2 c2) s.data) (hk : x.w.k = 3) (ht : x.w.t.size ≤ 1000000) :
    Calls Tryz.prog 65 #[.agg (spC s (.slice a1 n1 c1) (.slice a2 n2 c2)), .int .u8 112, .agg (encW x).toArray] W (FdR N W s (.slice a1 n1 c1) (.slice a2 n2 c2) (tkF s 1 [x])) := by
  obtain ⟨X, hX⟩ : ∃ X, ((W.alloc (.cells (spC s (.slice a1 n1 c1) (.slice a2 n2 c2)) 40)).alloc (.cells (encW x).toArray 73)).alloc (.cells zSt 40) = X := ⟨_, rfl⟩
  obtain ⟨hbX, q0, q1, q2⟩ := fd_boxes W s _ _ x hX
  have w0 := q1.cell 0 (.int .i64 (x.w.k : Int)) rfl
  have w1 := q1.cell 1 (.string x.w.t) rfl
  have w2 := q1.cell 2 (.int .i64 x.w.n) rfl
  have kx : ((x.w.k : Int) != 3) = false := by rw [hk]; rfl
  have hyes : tkF s 1 [x] = some (s.num 1 x.w.n, 1) := by simp [tkF, hk]
  rw [hyes]
  have o0 := q0.cell 2 (.int .i64 s.peer) rfl
  have f0 := q0.frozen 2
  have l0 := q0.lt
  obtain ⟨Z, hZ⟩ : ∃ Z, X.setCell ⟨W.heap.size, 2, none⟩ (.int .i64 x.w.n) = Z := ⟨_, rfl⟩
  have kT := Kp.set (N := fun i => i = W.heap.size) X ⟨W.heap.size, 2, none⟩ (.int .i64 x.w.n) rfl
  rw [hZ] at kT
  have z0 : Bq Z W.heap.size 40 (spC (s.num 1 x.w.n) (.slice a1 n1 c1) (.slice a2 n2 c2)) := by
    have h := q0.sets 2 (.int .i64 x.w.n)
    rw [hZ] at h
    exact h
  have z2 : Bq Z (W.heap.size + 2) 40 zSt := q2.kp kT (by omega)
  have oX := ownsF_kp ho (Kp.of_below (N := fun _ => False) hbX) (fun _ _ e => e)
  have oZ : OwB Z N (.slice a2 n2 c2) s.data := ownsF_kp oX kT (fun i hi e => ownsF_ty oX q0 (by decide) (by rw [hi, e]))
  have kS := kp_setRow Z (W.heap.size + 2) (spC (s.num 1 x.w.n) (.slice a1 n1 c1) (.slice a2 n2 c2))
  have HG := hide (show Bq Z W.heap.size 40 (spC (s.num 1 x.w.n) (.slice a1 n1 c1) (.slice a2 n2 c2)) ∧ Bq Z (W.heap.size + 2) 40 zSt from ⟨z0, z2⟩)
  have HO := hide (show (spC (s.num 1 x.w.n) (.slice a1 n1 c1) (.slice a2 n2 c2)).all (·.oneCell') = true from spC_one _ _ _ _ _ _ _)
  have HZ := hide (show FdR N W s (.slice a1 n1 c1) (.slice a2 n2 c2) (some (s.num 1 x.w.n, 1)) (.returned (.tuple #[.agg (spC (s.num 1 x.w.n) (.slice a1 n1 c1) (.slice a2 n2 c2)), .bool true])) (Z.setRow (W.heap.size + 2) (spC (s.num 1 x.w.n) (.slice a1 n1 c1) (.slice a2 n2 c2))) from ⟨kS.below (kT.below hbX (fun i e => by omega)) (fun i e => by omega), _, _, _, rfl, ownsF_kp oZ kS (fun i hi e => ownsF_ty oZ z2 (by decide) (by rw [hi, e]))⟩)
  have u2 := (z2.cell 0 _ rfl)
  unfold encW zSt spC at hX
  unfold encW spC
  unfold spC at HZ HG HO
  simp only [Sp.num, Sp.txt] at HG HO HZ
  clear q0 q1 q2 z0 z2 kS hbX ho ht hk hyes kT oX oZ u2
  go_enter Tryz.func65, Tryz.ntmps65
  go_wp2_with (first | refine wpl_loadS rfl _ rfl rfl (unhide HG).1 rfl ?_ | refine wpl_storeS (cs := #[.int .i64 s.kind, .int .i64 s.site, .int .i64 x.w.n, .int .i64 s.unit, .int .i64 s.at_, .int .i64 s.n, .string s.text, .slice a1 n1 c1, .slice a2 n2 c2]) rfl _ _ rfl rfl rfl (unhide HG).2 rfl rfl (unhide HO) ?_)
  refine bodyPost_ret (results_ctS rfl _ _ (W.heap.size + 2) _ (#[.int .i64 s.kind, .int .i64 s.site, .int .i64 x.w.n, .int .i64 s.unit, .int .i64 s.at_, .int .i64 s.n, .string s.text, .slice a1 n1 c1, .slice a2 n2 c2]) _ _ rfl (setRow_heap _ _ _ (#[.int .i64 s.kind, .int .i64 s.site, .int .i64 x.w.n, .int .i64 s.unit, .int .i64 s.at_, .int .i64 s.n, .string s.text, .slice a1 n1 c1, .slice a2 n2 c2]) _ _ (unhide HG).2) Tryz.underlying40 rfl sizeSt) rfl ?_
  exact unhide HZ

set_option maxRecDepth 100000 in
set_option maxHeartbeats 4000000 in
theorem field2g {W : World} (N : Nat) (s : Sp) (a1 : Option Addr) (n1 c1 : Nat) (a2 : Option Addr) (n2 c2 : Nat) (x : It) (hN : N ≤ W.heap.size) (ho : OwB W N (.slice a2 n2 c2) s.data) (hk : x.w.k = 3) (ht : x.w.t.size ≤ 1000000) :
    Calls Tryz.prog 65 #[.agg (spC s (.slice a1 n1 c1) (.slice a2 n2 c2)), .int .u8 97, .agg (encW x).toArray] W (FdR N W s (.slice a1 n1 c1) (.slice a2 n2 c2) (tkF s 2 [x])) := by
  obtain ⟨X, hX⟩ : ∃ X, ((W.alloc (.cells (spC s (.slice a1 n1 c1) (.slice a2 n2 c2)) 40)).alloc (.cells (encW x).toArray 73)).alloc (.cells zSt 40) = X := ⟨_, rfl⟩
  obtain ⟨hbX, q0, q1, q2⟩ := fd_boxes W s _ _ x hX
  have w0 := q1.cell 0 (.int .i64 (x.w.k : Int)) rfl
  have w1 := q1.cell 1 (.string x.w.t) rfl
  have w2 := q1.cell 2 (.int .i64 x.w.n) rfl
  have kx : ((x.w.k : Int) != 3) = false := by rw [hk]; rfl
  have hyes : tkF s 2 [x] = some (s.num 2 x.w.n, 1) := by simp [tkF, hk]
  rw [hyes]
  have o0 := q0.cell 4 (.int .i64 s.at_) rfl
  have f0 := q0.frozen 4
  have l0 := q0.lt
  obtain ⟨Z, hZ⟩ : ∃ Z, X.setCell ⟨W.heap.size, 4, none⟩ (.int .i64 x.w.n) = Z := ⟨_, rfl⟩
  have kT := Kp.set (N := fun i => i = W.heap.size) X ⟨W.heap.size, 4, none⟩ (.int .i64 x.w.n) rfl
  rw [hZ] at kT
  have z0 : Bq Z W.heap.size 40 (spC (s.num 2 x.w.n) (.slice a1 n1 c1) (.slice a2 n2 c2)) := by
    have h := q0.sets 4 (.int .i64 x.w.n)
    rw [hZ] at h
    exact h
  have z2 : Bq Z (W.heap.size + 2) 40 zSt := q2.kp kT (by omega)
  have oX := ownsF_kp ho (Kp.of_below (N := fun _ => False) hbX) (fun _ _ e => e)
  have oZ : OwB Z N (.slice a2 n2 c2) s.data := ownsF_kp oX kT (fun i hi e => ownsF_ty oX q0 (by decide) (by rw [hi, e]))
  have kS := kp_setRow Z (W.heap.size + 2) (spC (s.num 2 x.w.n) (.slice a1 n1 c1) (.slice a2 n2 c2))
  have HG := hide (show Bq Z W.heap.size 40 (spC (s.num 2 x.w.n) (.slice a1 n1 c1) (.slice a2 n2 c2)) ∧ Bq Z (W.heap.size + 2) 40 zSt from ⟨z0, z2⟩)
  have HO := hide (show (spC (s.num 2 x.w.n) (.slice a1 n1 c1) (.slice a2 n2 c2)).all (·.oneCell') = true from spC_one _ _ _ _ _ _ _)
  have HZ := hide (show FdR N W s (.slice a1 n1 c1) (.slice a2 n2 c2) (some (s.num 2 x.w.n, 1)) (.returned (.tuple #[.agg (spC (s.num 2 x.w.n) (.slice a1 n1 c1) (.slice a2 n2 c2)), .bool true])) (Z.setRow (W.heap.size + 2) (spC (s.num 2 x.w.n) (.slice a1 n1 c1) (.slice a2 n2 c2))) from ⟨kS.below (kT.below hbX (fun i e => by omega)) (fun i e => by omega), _, _, _, rfl, ownsF_kp oZ kS (fun i hi e => ownsF_ty oZ z2 (by decide) (by rw [hi, e]))⟩)
  have u2 := (z2.cell 0 _ rfl)
  unfold encW zSt spC at hX
  unfold encW spC
  unfold spC at HZ HG HO
  simp only [Sp.num, Sp.txt] at HG HO HZ
  clear q0 q1 q2 z0 z2 kS hbX ho ht hk hyes kT oX oZ u2
  go_enter Tryz.func65, Tryz.ntmps65
  go_wp2_with (first | refine wpl_loadS rfl _ rfl rfl (unhide HG).1 rfl ?_ | refine wpl_storeS (cs := #[.int .i64 s.kind, .int .i64 s.site, .int .i64 s.peer, .int .i64 s.unit, .int .i64 x.w.n, .int .i64 s.n, .string s.text, .slice a1 n1 c1, .slice a2 n2 c2]) rfl _ _ rfl rfl rfl (unhide HG).2 rfl rfl (unhide HO) ?_)
  refine bodyPost_ret (results_ctS rfl _ _ (W.heap.size + 2) _ (#[.int .i64 s.kind, .int .i64 s.site, .int .i64 s.peer, .int .i64 s.unit, .int .i64 x.w.n, .int .i64 s.n, .string s.text, .slice a1 n1 c1, .slice a2 n2 c2]) _ _ rfl (setRow_heap _ _ _ (#[.int .i64 s.kind, .int .i64 s.site, .int .i64 s.peer, .int .i64 s.unit, .int .i64 x.w.n, .int .i64 s.n, .string s.text, .slice a1 n1 c1, .slice a2 n2 c2]) _ _ (unhide HG).2) Tryz.underlying40 rfl sizeSt) rfl ?_
  exact unhide HZ

set_option maxRecDepth 100000 in
set_option maxHeartbeats 4000000 in
theorem field3g {W : World} (N : Nat) (s : Sp) (a1 : Option Addr) (n1 c1 : Nat) (a2 : Option Addr) (n2 c2 : Nat) (x : It) (hN : N ≤ W.heap.size) (ho : OwB W N (.slice a2 n2 c2) s.data) (hk : x.w.k = 3) (ht : x.w.t.size ≤ 1000000) :
    Calls Tryz.prog 65 #[.agg (spC s (.slice a1 n1 c1) (.slice a2 n2 c2)), .int .u8 110, .agg (encW x).toArray] W (FdR N W s (.slice a1 n1 c1) (.slice a2 n2 c2) (tkF s 3 [x])) := by
  obtain ⟨X, hX⟩ : ∃ X, ((W.alloc (.cells (spC s (.slice a1 n1 c1) (.slice a2 n2 c2)) 40)).alloc (.cells (encW x).toArray 73)).alloc (.cells zSt 40) = X := ⟨_, rfl⟩
  obtain ⟨hbX, q0, q1, q2⟩ := fd_boxes W s _ _ x hX
  have w0 := q1.cell 0 (.int .i64 (x.w.k : Int)) rfl
  have w1 := q1.cell 1 (.string x.w.t) rfl
  have w2 := q1.cell 2 (.int .i64 x.w.n) rfl
  have kx : ((x.w.k : Int) != 3) = false := by rw [hk]; rfl
  have hyes : tkF s 3 [x] = some (s.num 3 x.w.n, 1) := by simp [tkF, hk]
  rw [hyes]
  have o0 := q0.cell 5 (.int .i64 s.n) rfl
  have f0 := q0.frozen 5
  have l0 := q0.lt
  obtain ⟨Z, hZ⟩ : ∃ Z, X.setCell ⟨W.heap.size, 5, none⟩ (.int .i64 x.w.n) = Z := ⟨_, rfl⟩
  have kT := Kp.set (N := fun i => i = W.heap.size) X ⟨W.heap.size, 5, none⟩ (.int .i64 x.w.n) rfl
  rw [hZ] at kT
  have z0 : Bq Z W.heap.size 40 (spC (s.num 3 x.w.n) (.slice a1 n1 c1) (.slice a2 n2 c2)) := by
    have h := q0.sets 5 (.int .i64 x.w.n)
    rw [hZ] at h
    exact h
  have z2 : Bq Z (W.heap.size + 2) 40 zSt := q2.kp kT (by omega)
  have oX := ownsF_kp ho (Kp.of_below (N := fun _ => False) hbX) (fun _ _ e => e)
  have oZ : OwB Z N (.slice a2 n2 c2) s.data := ownsF_kp oX kT (fun i hi e => ownsF_ty oX q0 (by decide) (by rw [hi, e]))
  have kS := kp_setRow Z (W.heap.size + 2) (spC (s.num 3 x.w.n) (.slice a1 n1 c1) (.slice a2 n2 c2))
  have HG := hide (show Bq Z W.heap.size 40 (spC (s.num 3 x.w.n) (.slice a1 n1 c1) (.slice a2 n2 c2)) ∧ Bq Z (W.heap.size + 2) 40 zSt from ⟨z0, z2⟩)
  have HO := hide (show (spC (s.num 3 x.w.n) (.slice a1 n1 c1) (.slice a2 n2 c2)).all (·.oneCell') = true from spC_one _ _ _ _ _ _ _)
  have HZ := hide (show FdR N W s (.slice a1 n1 c1) (.slice a2 n2 c2) (some (s.num 3 x.w.n, 1)) (.returned (.tuple #[.agg (spC (s.num 3 x.w.n) (.slice a1 n1 c1) (.slice a2 n2 c2)), .bool true])) (Z.setRow (W.heap.size + 2) (spC (s.num 3 x.w.n) (.slice a1 n1 c1) (.slice a2 n2 c2))) from ⟨kS.below (kT.below hbX (fun i e => by omega)) (fun i e => by omega), _, _, _, rfl, ownsF_kp oZ kS (fun i hi e => ownsF_ty oZ z2 (by decide) (by rw [hi, e]))⟩)
  have u2 := (z2.cell 0 _ rfl)
  unfold encW zSt spC at hX
  unfold encW spC
  unfold spC at HZ HG HO
  simp only [Sp.num, Sp.txt] at HG HO HZ
  clear q0 q1 q2 z0 z2 kS hbX ho ht hk hyes kT oX oZ u2
  go_enter Tryz.func65, Tryz.ntmps65
  go_wp2_with (first | refine wpl_loadS rfl _ rfl rfl (unhide HG).1 rfl ?_ | refine wpl_storeS (cs := #[.int .i64 s.kind, .int .i64 s.site, .int .i64 s.peer, .int .i64 s.unit, .int .i64 s.at_, .int .i64 x.w.n, .string s.text, .slice a1 n1 c1, .slice a2 n2 c2]) rfl _ _ rfl rfl rfl (unhide HG).2 rfl rfl (unhide HO) ?_)
  refine bodyPost_ret (results_ctS rfl _ _ (W.heap.size + 2) _ (#[.int .i64 s.kind, .int .i64 s.site, .int .i64 s.peer, .int .i64 s.unit, .int .i64 s.at_, .int .i64 x.w.n, .string s.text, .slice a1 n1 c1, .slice a2 n2 c2]) _ _ rfl (setRow_heap _ _ _ (#[.int .i64 s.kind, .int .i64 s.site, .int .i64 s.peer, .int .i64 s.unit, .int .i64 s.at_, .int .i64 x.w.n, .string s.text, .slice a1 n1 c1, .slice a2 n2 c2]) _ _ (unhide HG).2) Tryz.underlying40 rfl sizeSt) rfl ?_
  exact unhide HZ

set_option maxRecDepth 100000 in
set_option maxHeartbeats 4000000 in
theorem field5g {W : World} (N : Nat) (s : Sp) (a1 : Option Addr) (n1 c1 : Nat) (a2 : Option Addr) (n2 c2 : Nat) (x : It) (hN : N ≤ W.heap.size) (ho : OwB W N (.slice a2 n2 c2) s.data) (hk : x.w.k = 2) (ht : x.w.t.size ≤ 1000000) :
    Calls Tryz.prog 65 #[.agg (spC s (.slice a1 n1 c1) (.slice a2 n2 c2)), .int .u8 116, .agg (encW x).toArray] W (FdR N W s (.slice a1 n1 c1) (.slice a2 n2 c2) (tkF s 5 [x])) := by
  obtain ⟨X, hX⟩ : ∃ X, ((W.alloc (.cells (spC s (.slice a1 n1 c1) (.slice a2 n2 c2)) 40)).alloc (.cells (encW x).toArray 73)).alloc (.cells zSt 40) = X := ⟨_, rfl⟩
  obtain ⟨hbX, q0, q1, q2⟩ := fd_boxes W s _ _ x hX
  have w0 := q1.cell 0 (.int .i64 (x.w.k : Int)) rfl
  have w1 := q1.cell 1 (.string x.w.t) rfl
  have w2 := q1.cell 2 (.int .i64 x.w.n) rfl
  have kx : ((x.w.k : Int) != 2) = false := by rw [hk]; rfl
  have hyes : tkF s 5 [x] = some (s.txt x.w.t, 1) := by simp [tkF, hk]
  rw [hyes]
  have o0 := q0.cell 6 (.string s.text) rfl
  have f0 := q0.frozen 6
  have l0 := q0.lt
  obtain ⟨Z, hZ⟩ : ∃ Z, X.setCell ⟨W.heap.size, 6, none⟩ (.string x.w.t) = Z := ⟨_, rfl⟩
  have kT := Kp.set (N := fun i => i = W.heap.size) X ⟨W.heap.size, 6, none⟩ (.string x.w.t) rfl
  rw [hZ] at kT
  have z0 : Bq Z W.heap.size 40 (spC (s.txt x.w.t) (.slice a1 n1 c1) (.slice a2 n2 c2)) := by
    have h := q0.sets 6 (.string x.w.t)
    rw [hZ] at h
    exact h
  have z2 : Bq Z (W.heap.size + 2) 40 zSt := q2.kp kT (by omega)
  have oX := ownsF_kp ho (Kp.of_below (N := fun _ => False) hbX) (fun _ _ e => e)
  have oZ : OwB Z N (.slice a2 n2 c2) s.data := ownsF_kp oX kT (fun i hi e => ownsF_ty oX q0 (by decide) (by rw [hi, e]))
  have kS := kp_setRow Z (W.heap.size + 2) (spC (s.txt x.w.t) (.slice a1 n1 c1) (.slice a2 n2 c2))
  have HG := hide (show Bq Z W.heap.size 40 (spC (s.txt x.w.t) (.slice a1 n1 c1) (.slice a2 n2 c2)) ∧ Bq Z (W.heap.size + 2) 40 zSt from ⟨z0, z2⟩)
  have HO := hide (show (spC (s.txt x.w.t) (.slice a1 n1 c1) (.slice a2 n2 c2)).all (·.oneCell') = true from spC_one _ _ _ _ _ _ _)
  have HZ := hide (show FdR N W s (.slice a1 n1 c1) (.slice a2 n2 c2) (some (s.txt x.w.t, 1)) (.returned (.tuple #[.agg (spC (s.txt x.w.t) (.slice a1 n1 c1) (.slice a2 n2 c2)), .bool true])) (Z.setRow (W.heap.size + 2) (spC (s.txt x.w.t) (.slice a1 n1 c1) (.slice a2 n2 c2))) from ⟨kS.below (kT.below hbX (fun i e => by omega)) (fun i e => by omega), _, _, _, rfl, ownsF_kp oZ kS (fun i hi e => ownsF_ty oZ z2 (by decide) (by rw [hi, e]))⟩)
  have u2 := (z2.cell 0 _ rfl)
  unfold encW zSt spC at hX
  unfold encW spC
  unfold spC at HZ HG HO
  simp only [Sp.num, Sp.txt] at HG HO HZ
  clear q0 q1 q2 z0 z2 kS hbX ho ht hk hyes kT oX oZ u2
  go_enter Tryz.func65, Tryz.ntmps65
  go_wp2_with (first | refine wpl_loadS rfl _ rfl rfl (unhide HG).1 rfl ?_ | refine wpl_storeS (cs := #[.int .i64 s.kind, .int .i64 s.site, .int .i64 s.peer, .int .i64 s.unit, .int .i64 s.at_, .int .i64 s.n, .string x.w.t, .slice a1 n1 c1, .slice a2 n2 c2]) rfl _ _ rfl rfl rfl (unhide HG).2 rfl rfl (unhide HO) ?_)
  refine bodyPost_ret (results_ctS rfl _ _ (W.heap.size + 2) _ (#[.int .i64 s.kind, .int .i64 s.site, .int .i64 s.peer, .int .i64 s.unit, .int .i64 s.at_, .int .i64 s.n, .string x.w.t, .slice a1 n1 c1, .slice a2 n2 c2]) _ _ rfl (setRow_heap _ _ _ (#[.int .i64 s.kind, .int .i64 s.site, .int .i64 s.peer, .int .i64 s.unit, .int .i64 s.at_, .int .i64 s.n, .string x.w.t, .slice a1 n1 c1, .slice a2 n2 c2]) _ _ (unhide HG).2) Tryz.underlying40 rfl sizeSt) rfl ?_
  exact unhide HZ

set_option maxRecDepth 100000 in
set_option maxHeartbeats 4000000 in
theorem field6g {W : World} (N : Nat) (s : Sp) (a1 : Option Addr) (n1 c1 : Nat) (a2 : Option Addr) (n2 c2 : Nat) (x : It) (hN : N ≤ W.heap.size) (ho : OwB W N (.slice a2 n2 c2) s.data) (hk : x.w.k = 2) (ht : x.w.t.size ≤ 1000000) :
    Calls Tryz.prog 65 #[.agg (spC s (.slice a1 n1 c1) (.slice a2 n2 c2)), .int .u8 100, .agg (encW x).toArray] W (FdR N W s (.slice a1 n1 c1) (.slice a2 n2 c2) (tkF s 6 [x])) := by
  obtain ⟨X, hX⟩ : ∃ X, ((W.alloc (.cells (spC s (.slice a1 n1 c1) (.slice a2 n2 c2)) 40)).alloc (.cells (encW x).toArray 73)).alloc (.cells zSt 40) = X := ⟨_, rfl⟩
  obtain ⟨hbX, q0, q1, q2⟩ := fd_boxes W s _ _ x hX
  have w0 := q1.cell 0 (.int .i64 (x.w.k : Int)) rfl
  have w1 := q1.cell 1 (.string x.w.t) rfl
  have w2 := q1.cell 2 (.int .i64 x.w.n) rfl
  have kx : ((x.w.k : Int) != 2) = false := by rw [hk]; rfl
  have hyes : tkF s 6 [x] = some (s.dat x.w.t.data.toList, 1) := by simp [tkF, hk]
  rw [hyes]
  have hts : x.w.t.size ≤ maxLen := by unfold maxLen; omega
  have hZb := Lib.bytesWorld_below X 5 x.w.t
  have hZn := Lib.bytesWorld_at_new X 5 x.w.t
  have hcv := Lib.run_convert_string_bytes (P := Tryz.prog) X 9 38 5 x.w.t Tryz.underlying9 Tryz.underlying38 Tryz.underlying5
  have hG1 := grownCap_ge X x.w.t.size 0 5
  have hG2 := grownCap_le_maxLen X x.w.t.size 0 5 hts
  have hcs : (Lib.bytesCells X 5 x.w.t).size = grownCap X x.w.t.size 0 5 := by unfold Lib.bytesCells; simp only [Array.size_append, Array.size_map, Array.size_replicate]; show x.w.t.size + _ = _; omega
  have htk : (Lib.bytesCells X 5 x.w.t).toList.take x.w.t.data.toList.length = Lib.byteCells x.w.t.data.toList := by
    unfold Lib.bytesCells Lib.byteCells
    rw [Array.toList_append, List.take_append_of_le_length (by simp)]
    simp
    exact List.take_of_length_le (by rw [List.length_map, Array.length_toList]; exact Nat.le_refl _)
  obtain ⟨G, hG⟩ : ∃ G, grownCap X x.w.t.size 0 5 = G := ⟨_, rfl⟩
  obtain ⟨Y, hY⟩ : ∃ Y, Lib.bytesWorld X 5 x.w.t = Y := ⟨_, rfl⟩
  rw [hG] at hcv hG1 hG2 hcs
  rw [hY] at hcv hZb hZn
  have hown : OwB Y N (.slice (some ⟨X.heap.size, 0, none⟩) x.w.t.size G) x.w.t.data.toList := .inr ⟨_, G, _, _, rfl, Nat.le_trans hN hbX.size, hZn, .inr rfl, by rw [hcs] at *; exact hG1, hG2, hcs, htk⟩
  have y0 := q0.keep hZb q0.lt
  have y2 := q2.keep hZb q2.lt
  have o0 := y0.cell 8 (.slice a2 n2 c2) rfl
  have f0 := y0.frozen 8
  have l0 := y0.lt
  have hbY := bnext hbX hZb
  obtain ⟨Z, hZ⟩ : ∃ Z, Y.setCell ⟨W.heap.size, 8, none⟩ (.slice (some ⟨X.heap.size, 0, none⟩) x.w.t.size G) = Z := ⟨_, rfl⟩
  have kT := Kp.set (N := fun i => i = W.heap.size) Y ⟨W.heap.size, 8, none⟩ (.slice (some ⟨X.heap.size, 0, none⟩) x.w.t.size G) rfl
  rw [hZ] at kT
  have z0 : Bq Z W.heap.size 40 (spC (s.dat x.w.t.data.toList) (.slice a1 n1 c1) (.slice (some ⟨X.heap.size, 0, none⟩) x.w.t.size G)) := by
    have h := y0.sets 8 (.slice (some ⟨X.heap.size, 0, none⟩) x.w.t.size G)
    rw [hZ] at h
    exact h
  have z2 : Bq Z (W.heap.size + 2) 40 zSt := y2.kp kT (by omega)
  have oZ : OwB Z N (.slice (some ⟨X.heap.size, 0, none⟩) x.w.t.size G) x.w.t.data.toList := ownsF_kp hown kT (fun i hi e => ownsF_ty hown y0 (by decide) (by rw [hi, e]))
  have kS := kp_setRow Z (W.heap.size + 2) (spC (s.dat x.w.t.data.toList) (.slice a1 n1 c1) (.slice (some ⟨X.heap.size, 0, none⟩) x.w.t.size G))
  have HG := hide (show Bq Z W.heap.size 40 (spC (s.dat x.w.t.data.toList) (.slice a1 n1 c1) (.slice (some ⟨X.heap.size, 0, none⟩) x.w.t.size G)) ∧ Bq Z (W.heap.size + 2) 40 zSt from ⟨z0, z2⟩)
  have HO := hide (show (spC (s.dat x.w.t.data.toList) (.slice a1 n1 c1) (.slice (some ⟨X.heap.size, 0, none⟩) x.w.t.size G)).all (·.oneCell') = true from spC_one _ _ _ _ _ _ _)
  have HZ := hide (show FdR N W s (.slice a1 n1 c1) (.slice a2 n2 c2) (some (s.dat x.w.t.data.toList, 1)) (.returned (.tuple #[.agg (spC (s.dat x.w.t.data.toList) (.slice a1 n1 c1) (.slice (some ⟨X.heap.size, 0, none⟩) x.w.t.size G)), .bool true])) (Z.setRow (W.heap.size + 2) (spC (s.dat x.w.t.data.toList) (.slice a1 n1 c1) (.slice (some ⟨X.heap.size, 0, none⟩) x.w.t.size G))) from ⟨kS.below (kT.below hbY (fun i e => by omega)) (fun i e => by omega), _, _, _, rfl, ownsF_kp oZ kS (fun i hi e => ownsF_ty oZ z2 (by decide) (by rw [hi, e]))⟩)
  have w0' := cell_below w0 hZb
  have w1' := cell_below w1 hZb
  unfold encW zSt spC at hX
  unfold encW spC
  unfold spC at HZ HG HO
  simp only [Sp.dat] at HG HO HZ
  clear q0 q1 q2 z0 z2 kS hbX ho ht hk hyes kT oZ y0 y2 hown hZb hZn hG1 hG2 hcs htk hG hbY hY hts
  go_enter Tryz.func65, Tryz.ntmps65
  go_wp2_with (first | refine wpl_loadS rfl _ rfl rfl (unhide HG).1 rfl ?_ | refine wpl_storeS (cs := #[.int .i64 s.kind, .int .i64 s.site, .int .i64 s.peer, .int .i64 s.unit, .int .i64 s.at_, .int .i64 s.n, .string s.text, .slice a1 n1 c1, .slice (some ⟨X.heap.size, 0, none⟩) x.w.t.size G]) rfl _ _ rfl rfl rfl (unhide HG).2 rfl rfl (unhide HO) ?_)
  refine bodyPost_ret (results_ctS rfl _ _ (W.heap.size + 2) _ (#[.int .i64 s.kind, .int .i64 s.site, .int .i64 s.peer, .int .i64 s.unit, .int .i64 s.at_, .int .i64 s.n, .string s.text, .slice a1 n1 c1, .slice (some ⟨X.heap.size, 0, none⟩) x.w.t.size G]) _ _ rfl (setRow_heap _ _ _ (#[.int .i64 s.kind, .int .i64 s.site, .int .i64 s.peer, .int .i64 s.unit, .int .i64 s.at_, .int .i64 s.n, .string s.text, .slice a1 n1 c1, .slice (some ⟨X.heap.size, 0, none⟩) x.w.t.size G]) _ _ (unhide HG).2) Tryz.underlying40 rfl sizeSt) rfl ?_
  exact unhide HZ

theorem field_in {W : World} (N : Nat) (s : Sp) (a1 : Option Addr) (n1 c1 : Nat) (a2 : Option Addr) (n2 c2 : Nat) (f : Nat) (x : It) (hf : f < 7) (hf4 : f ≠ 4) (hN : N ≤ W.heap.size) (ho : OwB W N (.slice a2 n2 c2) s.data) (ht : x.w.t.size ≤ 1000000) :
    Calls Tryz.prog 65 #[.agg (spC s (.slice a1 n1 c1) (.slice a2 n2 c2)), .int .u8 (lfF f : Nat), .agg (encW x).toArray] W (FdR N W s (.slice a1 n1 c1) (.slice a2 n2 c2) (tkF s f [x])) := by
  have hi2 : f = 0 ∨ f = 1 ∨ f = 2 ∨ f = 3 ∨ f = 5 ∨ f = 6 := by omega
  by_cases h3 : x.w.k = 3
  · by_cases h2 : x.w.k = 2
    · omega
    · rcases hi2 with rfl | rfl | rfl | rfl | rfl | rfl
      · exact field0g N s a1 n1 c1 a2 n2 c2 x hN ho h3 ht
      · exact field1g N s a1 n1 c1 a2 n2 c2 x hN ho h3 ht
      · exact field2g N s a1 n1 c1 a2 n2 c2 x hN ho h3 ht
      · exact field3g N s a1 n1 c1 a2 n2 c2 x hN ho h3 ht
      · exact field5b N s a1 n1 c1 a2 n2 c2 x hN ho h2 ht
      · exact field6b N s a1 n1 c1 a2 n2 c2 x hN ho h2 ht
  · by_cases h2 : x.w.k = 2
    · rcases hi2 with rfl | rfl | rfl | rfl | rfl | rfl
      · exact field0b N s a1 n1 c1 a2 n2 c2 x hN ho h3 ht
      · exact field1b N s a1 n1 c1 a2 n2 c2 x hN ho h3 ht
      · exact field2b N s a1 n1 c1 a2 n2 c2 x hN ho h3 ht
      · exact field3b N s a1 n1 c1 a2 n2 c2 x hN ho h3 ht
      · exact field5g N s a1 n1 c1 a2 n2 c2 x hN ho h2 ht
      · exact field6g N s a1 n1 c1 a2 n2 c2 x hN ho h2 ht
    · rcases hi2 with rfl | rfl | rfl | rfl | rfl | rfl
      · exact field0b N s a1 n1 c1 a2 n2 c2 x hN ho h3 ht
      · exact field1b N s a1 n1 c1 a2 n2 c2 x hN ho h3 ht
      · exact field2b N s a1 n1 c1 a2 n2 c2 x hN ho h3 ht
      · exact field3b N s a1 n1 c1 a2 n2 c2 x hN ho h3 ht
      · exact field5b N s a1 n1 c1 a2 n2 c2 x hN ho h2 ht
      · exact field6b N s a1 n1 c1 a2 n2 c2 x hN ho h2 ht
end Go.Proofs.YtkndjbmlkfpfoaaGreatDoor

/-
  How the document reads a line's words, and how the program does. Pure.
-/
set_option linter.unusedSimpArgs false
set_option linter.unusedVariables false
namespace Go.Proofs.YtkndjbmlkfpfoaaGreatDoor
open Go.RowKit Go.Lib

/-- a line's first word is a kind's name -/
def hitN (x : It) (j : Nat) : Prop := x.w.k = 1 ∧ x.w.t = ofL (tnm.getD j [])
def hitB (x : It) (j : Nat) : Bool := decide (x.w.k = 1) && decide (x.w.t = ofL (tnm.getD j []))
theorem hitB_iff (x : It) (j : Nat) : hitB x j = true ↔ hitN x j := by unfold hitB hitN; simp
/-- the last kind among the first ones whose name it is -/
def kdF (x : It) : Nat → Nat
  | 0 => 0
  | j + 1 => if hitB x j = true then j + 1 else kdF x j
theorem fs_one {β : Type} {f : Nat → Option β} : ∀ (L : List Nat) (i : Nat), i ∈ L → (∀ j ∈ L, j ≠ i → f j = none) → L.findSome? f = f i
  | [], _, h, _ => by cases h
  | j :: L, i, h, hn => by
    by_cases e : j = i
    · subst e
      rw [List.findSome?_cons]
      cases hf : f j with
      | some b => rfl
      | none =>
        by_cases hm : j ∈ L
        · have := fs_one (f := f) L j hm (fun q hq hne => hn q (List.mem_cons_of_mem _ hq) hne)
          rw [hf] at this
          exact this
        · show L.findSome? f = none
          rw [List.findSome?_eq_none_iff]
          intro q hq
          exact hn q (List.mem_cons_of_mem _ hq) (fun e => hm (e ▸ hq))
    · rw [List.findSome?_cons, hn j (List.mem_cons_self ..) e]
      rcases List.mem_cons.1 h with h | h
      · exact absurd h.symm e
      · exact fs_one L i h (fun q hq hne => hn q (List.mem_cons_of_mem _ hq) hne)
theorem ofL_inj2 {a b : List UInt8} (h : ofL a = ofL b) : a = b := by
  have := congrArg (fun s : ByteArray => s.data.toList) h
  simpa [ofL] using this
theorem tnm_inj : ∀ i, i < 14 → ∀ j, j < 14 → tnm.getD i [] = tnm.getD j [] → i = j := by decide +kernel
theorem hitN_one {x : It} {i j : Nat} (hi : i < 14) (hj : j < 14) (h1 : hitN x i) (h2 : hitN x j) : i = j := tnm_inj i hi j hj (ofL_inj2 (h1.2.symm.trans h2.2))
theorem kdF_cases (x : It) : ∀ n, (kdF x n = 0 ∧ ∀ j, j < n → ¬ hitN x j) ∨ ∃ i, i < n ∧ kdF x n = i + 1 ∧ hitN x i
  | 0 => .inl ⟨rfl, fun j hj => absurd hj (Nat.not_lt_zero _)⟩
  | n + 1 => by
    by_cases h : hitB x n = true
    · exact .inr ⟨n, Nat.lt_succ_self _, by unfold kdF; rw [if_pos h], (hitB_iff x n).1 h⟩
    · have e : kdF x (n + 1) = kdF x n := by show (if hitB x n = true then n + 1 else kdF x n) = _; rw [if_neg h]
      rw [e]
      rcases kdF_cases x n with ⟨h0, hn⟩ | ⟨i, hi, h1, h2⟩
      · refine .inl ⟨h0, fun j hj => ?_⟩
        by_cases hjn : j = n
        · subst hjn; exact fun q => h ((hitB_iff x j).2 q)
        · exact hn j (by omega)
      · exact .inr ⟨i, by omega, h1, h2⟩
theorem rdRw_miss {x : It} {j : Nat} (l : List It) (h : ¬ hitN x j) : rdRw j (x :: l) = none := by
  show (if x.w.k = 1 ∧ x.w.t = ofL (tnm.getD j []) then _ else none) = none
  exact if_neg h
/-- what a row says of the words behind its name -/
def endR (r : Option (Sp × List It)) : Option Sp := match r with
  | some (s, []) => some s
  | _ => none
theorem rdRw_hit {x : It} {i : Nat} (l : List It) (h : hitN x i) : rdRw i (x :: l) = endR (rdFs (tfl.getD i []) (sp0 ((i : Int) + 1)) l) := by
  show (if x.w.k = 1 ∧ x.w.t = ofL (tnm.getD i []) then _ else none) = _
  rw [if_pos (show x.w.k = 1 ∧ x.w.t = ofL (tnm.getD i []) from h)]
  rfl
theorem fstR_hit {x : It} {i : Nat} (l : List It) (hi : i < 14) (h : hitN x i) : fstR (x :: l) = endR (rdFs (tfl.getD i []) (sp0 ((i : Int) + 1)) l) := by
  rw [← rdRw_hit l h]
  exact fs_one (f := fun i => rdRw i (x :: l)) (List.range 14) i (List.mem_range.2 hi) (fun j hj hne => rdRw_miss l (fun q => hne (hitN_one (List.mem_range.1 hj) hi q h)))
theorem fstR_miss {x : It} (l : List It) (h : ∀ j, j < 14 → ¬ hitN x j) : fstR (x :: l) = none := by
  unfold fstR
  rw [List.findSome?_eq_none_iff]
  intro j hj
  exact rdRw_miss l (h j (List.mem_range.1 hj))
theorem rd_tick (l : List It) : endR (rdFs (tfl.getD 5 []) (sp0 6) l) = if allN l = true then some ((sp0 6).dr (l.map fun x => x.w.n)) else none := by
  show endR (match tkF (sp0 6) 4 l with | none => none | some (s', n) => rdFs [] s' (l.drop n)) = _
  unfold tkF
  rw [if_pos rfl]
  cases h : allN l with
  | true =>
    simp only [if_true, rdFs]
    rw [List.drop_length]
    rfl
  | false => rfl
theorem tkF_one {s : Sp} {f : Nat} {x : It} {l : List It} (hf : f ≠ 4) : tkF s f (x :: l) = tkF s f [x] := by
  unfold tkF
  rw [if_neg hf, if_neg hf]
theorem tkF_n1 {s s' : Sp} {f n : Nat} {x : It} (hf : f ≠ 4) (h : tkF s f [x] = some (s', n)) : n = 1 := by
  unfold tkF at h
  rw [if_neg hf] at h
  simp only at h
  split at h
  · split at h
    · simp at h; exact h.2.symm
    · cases h
  · split at h
    · simp at h; exact h.2.symm
    · cases h
theorem tkF_nil {s : Sp} {f : Nat} (hf : f ≠ 4) : tkF s f [] = none := by
  unfold tkF
  rw [if_neg hf]
theorem rdFs_len : ∀ (fl : List Nat) (s : Sp) (l : List It) (s' : Sp) (r : List It), (∀ f ∈ fl, f ≠ 4) → rdFs fl s l = some (s', r) → l.length = fl.length + r.length
  | [], s, l, s', r, _, h => by cases h; simp
  | f :: fl, s, l, s', r, hf, h => by
    have hf4 := hf f (List.mem_cons_self ..)
    cases l with
    | nil =>
      have h' : (match tkF s f [] with | none => none | some (s', n) => rdFs fl s' (([] : List It).drop n)) = some (s', r) := h
      rw [tkF_nil hf4] at h'
      cases h'
    | cons x l =>
      have h' : (match tkF s f (x :: l) with | none => none | some (s', n) => rdFs fl s' ((x :: l).drop n)) = some (s', r) := h
      rw [tkF_one hf4] at h'
      cases hq : tkF s f [x] with
      | none => rw [hq] at h'; cases h'
      | some p =>
        obtain ⟨s2, n⟩ := p
        obtain rfl := tkF_n1 hf4 hq
        rw [hq] at h'
        have := rdFs_len fl s2 l s' r (fun g hg => hf g (List.mem_cons_of_mem _ hg)) h'
        simp only [List.length_cons]
        omega
theorem rd_short {fl : List Nat} {s : Sp} {l : List It} (hf : ∀ f ∈ fl, f ≠ 4) (h : l.length ≠ fl.length) : endR (rdFs fl s l) = none := by
  cases hr : rdFs fl s l with
  | none => rfl
  | some p =>
    obtain ⟨s', r⟩ := p
    have := rdFs_len fl s l s' r hf hr
    cases r with
    | nil => exact absurd (by simpa using this) h
    | cons y r => rfl
theorem rdFs_step {fl : List Nat} {s s1 : Sp} {l : List It} {i f : Nat} {x : It} (hf : fl[i]? = some f) (hf4 : f ≠ 4) (hx : l[i]? = some x) (h : rdFs (fl.take i) s l = some (s1, l.drop i)) :
    rdFs (fl.take (i + 1)) s l = match tkF s1 f [x] with | none => none | some (s2, _) => some (s2, l.drop (i + 1)) := by
  rw [List.take_add_one, hf]
  show rdFs (fl.take i ++ [f]) s l = _
  rw [rdFs_snoc, h]
  have hd : l.drop i = x :: l.drop (i + 1) := by
    rw [List.drop_eq_getElem_cons (List.getElem?_eq_some_iff.1 hx).1]
    congr 1
    exact (List.getElem?_eq_some_iff.1 hx).2
  simp only
  rw [hd, tkF_one hf4]
  cases hq : tkF s1 f [x] with
  | none => rfl
  | some p =>
    obtain ⟨s2, n⟩ := p
    obtain rfl := tkF_n1 hf4 hq
    simp
theorem rdFs_dead {fl : List Nat} {s : Sp} {l : List It} {i : Nat} (h : rdFs (fl.take i) s l = none) : endR (rdFs fl s l) = none := by
  have := rdFs_none (fl.take i) (fl.drop i) s l h
  rw [List.take_append_drop] at this
  rw [this]
  rfl
theorem rdFs_done {fl : List Nat} {s s1 : Sp} {l : List It} (hl : l.length = fl.length) (h : rdFs fl s l = some (s1, l.drop fl.length)) : endR (rdFs fl s l) = some s1 := by
  rw [h, List.drop_eq_nil_of_le (by omega)]
  rfl
theorem tsh_tfl : ∀ i, i < 14 → i ≠ 5 → tsh.getD i [] = (tfl.getD i []).map (fun f => UInt8.ofNat (lfF f)) := by decide +kernel
theorem tfl_ne4 : ∀ i, i < 14 → i ≠ 5 → ∀ f ∈ tfl.getD i [], f ≠ 4 := by decide +kernel
theorem nmT_at (j : Nat) (hj : j < 14) : nmT ((j : Int) + 1) = tnm.getD j [] := by
  unfold nmT
  rw [if_pos (by omega)]
  congr 1
  omega
theorem shT_at (j : Nat) (hj : j < 14) : shT ((j : Int) + 1) = tsh.getD j [] := by
  unfold shT
  rw [if_pos (by omega)]
  congr 1
  omega
/-- what field answers, in one form -/
def FdU (N : Nat) (W : World) (s : Sp) (f : Nat) (y : It) (sr : Sp) (v : Value) (b : Bool) (W' : World) : Prop :=
  OwB W' N v sr.data ∧ Below W.heap.size W W' ∧ ((b = true ∧ ∃ n, tkF s f [y] = some (sr, n)) ∨ (b = false ∧ tkF s f [y] = none))
theorem FdR.uni {N : Nat} {W W' : World} {s : Sp} {dv : Value} {a2 : Option Addr} {n2 c2 : Nat} {f : Nat} {y : It} {e : Ending} (h : FdR N W s dv (.slice a2 n2 c2) (tkF s f [y]) e W') :
    ∃ (sr : Sp) (ar : Option Addr) (nr cr : Nat) (b : Bool), e = .returned (.tuple #[.agg #[.int .i64 sr.kind, .int .i64 sr.site, .int .i64 sr.peer, .int .i64 sr.unit, .int .i64 sr.at_, .int .i64 sr.n, .string sr.text, dv, .slice ar nr cr], .bool b]) ∧ Hid (FdU N W s f y sr (.slice ar nr cr) b W') := by
  obtain ⟨hb, h⟩ := h
  cases hq : tkF s f [y] with
  | none =>
    rw [hq] at h
    exact ⟨s, a2, n2, c2, false, h.1, hide ⟨h.2, hb, .inr ⟨rfl, hq⟩⟩⟩
  | some p =>
    obtain ⟨s2, n⟩ := p
    rw [hq] at h
    obtain ⟨a3, n3, c3, e3, ho⟩ := h
    exact ⟨s2, a3, n3, c3, true, e3, hide ⟨ho, hb, .inl ⟨rfl, n, hq⟩⟩⟩
theorem tkF_draws {s s' : Sp} {f n : Nat} {y : It} (hf : f ≠ 4) (h : tkF s f [y] = some (s', n)) : s'.draws = s.draws := by
  unfold tkF at h
  rw [if_neg hf] at h
  simp only at h
  split at h
  · split at h
    · simp only [Option.some.injEq, Prod.mk.injEq] at h
      rw [← h.1]
      unfold Sp.num
      split <;> rfl
    · cases h
  · split at h
    · simp only [Option.some.injEq, Prod.mk.injEq] at h
      rw [← h.1]
      split <;> rfl
    · cases h
theorem lf_at {fl : List Nat} {j f : Nat} (h : fl[j]? = some f) (hf : f < 7) : by_ (ofL (fl.map fun f => UInt8.ofNat (lfF f))) j = lfF f := by
  have hj := (List.getElem?_eq_some_iff.1 h).1
  rw [by_list _ j (by simpa using hj)]
  simp only [List.getElem_map]
  rw [(List.getElem?_eq_some_iff.1 h).2]
  have : lfF f < 256 := by
    have : ∀ f, f < 7 → lfF f < 256 := by decide
    exact this f hf
  rw [UInt8.toNat_ofNat']
  omega
/-- what is there behind a field's call and the box of what it answered -/
def Fin24 (N : Nat) (wr : World) (s : Sp) (f : Nat) (y : It) (k : Nat) (sr : Sp) (v : Value) (b : Bool) (W5 : World) : Prop :=
  wr.heap.size ≤ k ∧ Bq W5 k 40 (spC sr (.slice none 0 0) v) ∧ Below wr.heap.size wr W5 ∧ OwB W5 N v sr.data ∧ ((b = true ∧ ∃ n, tkF s f [y] = some (sr, n)) ∨ (b = false ∧ tkF s f [y] = none))
theorem fin24A {N : Nat} {wr V W3 : World} {s sr : Sp} {f : Nat} {y : It} {v : Value} {b : Bool} (hV : Below wr.heap.size wr V) (h : FdU N V s f y sr v b W3) :
    Fin24 N wr s f y W3.heap.size sr v b (W3.alloc (.cells (spC sr (.slice none 0 0) v) 40)) := by
  have hb := ballc (Below.refl _ W3) (.cells (spC sr (.slice none 0 0) v) 40)
  exact ⟨Nat.le_trans hV.size h.2.1.size, Bq.new _ _ _, bnext (bnext hV h.2.1) hb, ownsF_kp h.1 (Kp.of_below (N := fun _ => False) hb) (fun _ _ e => e), h.2.2⟩
/-- a step laid cell by cell -/
def put9 (W : World) (k : Nat) : List (Nat × Value) → World
  | [] => W
  | (q, u) :: l => put9 (W.setCell ⟨k, q, none⟩ u) k l
def cs9 (sr : Sp) (v : Value) : List (Nat × Value) := [(0, .int .i64 sr.kind), (1, .int .i64 sr.site), (2, .int .i64 sr.peer), (3, .int .i64 sr.unit), (4, .int .i64 sr.at_), (5, .int .i64 sr.n), (6, .string sr.text), (7, .slice none 0 0), (8, v)]
theorem put9_kp (k : Nat) : ∀ (l : List (Nat × Value)) (W : World), Kp (fun i => i = k) W (put9 W k l)
  | [], W => Kp.refl _ _
  | (q, u) :: l, W => (Kp.set (N := fun i => i = k) W ⟨k, q, none⟩ u rfl).trans (put9_kp k l _) (fun i hi => .inl hi)
theorem put9_bq (k : Nat) (t : TypeId) : ∀ (l : List (Nat × Value)) (W : World) (vs : Array Value), Bq W k t vs → Bq (put9 W k l) k t (l.foldl (fun vs p => vs.setIfInBounds p.1 p.2) vs)
  | [], W, vs, h => h
  | (q, u) :: l, W, vs, h => put9_bq k t l _ _ (h.sets q u)
theorem fin24B {N : Nat} {wr V W3 : World} {s sr : Sp} {f : Nat} {y : It} {v : Value} {b : Bool} (hV : Below wr.heap.size wr V) (h : FdU N V s f y sr v b W3) (hz : Bq W3 wr.heap.size 40 zSt) :
    Fin24 N wr s f y wr.heap.size sr v b (put9 W3 wr.heap.size (cs9 sr v)) := by
  have k9 := put9_kp wr.heap.size (cs9 sr v) W3
  have e9 : (cs9 sr v).foldl (fun vs p => vs.setIfInBounds p.1 p.2) zSt = spC sr (.slice none 0 0) v := by simp [cs9, zSt, spC]
  have b9 := put9_bq wr.heap.size 40 (cs9 sr v) W3 zSt hz
  rw [e9] at b9
  exact ⟨Nat.le_refl _, b9, k9.below (bnext hV h.2.1) (fun i e => by omega), ownsF_kp h.1 k9 (fun i hi e => ownsF_ty h.1 hz (by decide) (by rw [hi, e])), h.2.2⟩
end Go.Proofs.YtkndjbmlkfpfoaaGreatDoor
